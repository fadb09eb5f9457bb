import Derived.Test.YtfiebibpgbadlaaGreatProgF
import Derived.Test.YtfiebibpgbadlaaGreatRefE
import Derived.Test.YtfiebibpgbadlaaGreatMe
namespace Go.Proofs.YtfiebibpgbadlaaGreat
open Go.RowKit
set_option linter.unusedVariables false
set_option linter.unusedSimpArgs false
attribute [local go_sem] run_store_float

theorem Tryz.infoPair : (Tryz.prog.info? 134).map (fun i => (i.zero, i.size, i.bytes)) = some (some (.agg #[.string ⟨#[]⟩, .string ⟨#[]⟩, .float .f64 0, .int .i64 0]), 4, 48) := by kernel_rfl

theorem one_item (p : Item) : ∀ u ∈ icell p, u.oneCell' = true := by
  intro u hu; simp [icell] at hu; rcases hu with rfl | rfl | rfl | rfl <;> rfl

theorem item_new (w : World) (o : Obj) (p : Item) (t : TypeId) : ∀ j x, (icell p)[j]? = some x → (((w.alloc o).alloc (.cells #[Value.string ⟨p.1.toArray⟩, Value.string ⟨p.2.1.toArray⟩, Value.float .f64 p.2.2.1, Value.int .i64 p.2.2.2] t)).drew).cell? ((⟨w.heap.size + 1, 0, none⟩ : Addr).add j) = some x := by
  intro j x hj
  have hadd : (⟨w.heap.size + 1, 0, none⟩ : Addr).add j = ⟨w.heap.size + 1, j, none⟩ := by unfold Addr.add; split <;> simp_all
  rw [hadd]
  show ((w.alloc o).alloc _).cell? _ = _
  rw [cell_second]
  simpa [icell] using hj

/-- k is no list of what waits in the queue. -/
def NR (qb k : Nat) (w : World) : Prop := ∀ iv, w.cell? ⟨qb, 0, none⟩ = some iv → iv.ownBlock ≠ some k

/-- A pair that is no list of what waits is as it was. -/
def PK (qb : Nat) (w w' : World) : Prop := ∀ k c fr, w.heap[k]? = some (.cells c 134 fr) → NR qb k w → w'.heap[k]? = some (.cells c 134 fr) ∧ NR qb k w'

theorem PK.refl (qb : Nat) (w : World) : PK qb w w := fun _ _ _ h1 h2 => ⟨h1, h2⟩
theorem PK.trans {qb : Nat} {a b c : World} (h : PK qb a b) (k : PK qb b c) : PK qb a c := fun i x fr h1 h2 => k i x fr (h i x fr h1 h2).1 (h i x fr h1 h2).2
theorem PK.of_kept {qb : Nat} {a b : World} {S : List Nat} (h : Kept S a b) (hq : qb < a.heap.size) (hn : qb ∉ S) (hS : ∀ k, k ∈ S → ∀ c fr, a.heap[k]? ≠ some (.cells c 134 fr)) : PK qb a b := by
  intro k c fr h1 h2
  refine ⟨h.at h1 (fun hm => hS k hm c fr h1), ?_⟩
  intro iv hiv
  rw [World.cell?_of_block (w := a) (h.block qb hq hn)] at hiv
  exact h2 iv hiv
theorem PK.of_below {qb : Nat} {a b : World} (h : Below a.heap.size a b) (hq : qb < a.heap.size) : PK qb a b := PK.of_kept (S := []) (Kept.of_below_size h) hq (by simp) (by simp)
theorem PK.of_same {qb : Nat} {a b : World} (h : SameW a b) : PK qb a b := by
  intro k c fr h1 h2
  refine ⟨by rw [h.1]; exact h1, ?_⟩
  intro iv hiv
  rw [World.cell?_of_block (w := a) (by rw [h.1])] at hiv
  exact h2 iv hiv
theorem PK.of_row {qb : Nat} {a b : World} {S : List Nat} {iv iv' f f' : Value} {t t' : TypeId} {fr fr' : Nat × Nat} (h : Kept S a b) (hb : a.heap[qb]? = some (.cells #[iv, f] t fr)) (ht : t ≠ 134) (hb' : b.heap[qb]? = some (.cells #[iv', f'] t' fr'))
    (hS : ∀ k, k ∈ S → k = qb ∨ iv.ownBlock = some k) (hi : ∀ k, iv'.ownBlock = some k → iv.ownBlock = some k ∨ a.heap.size ≤ k) : PK qb a b := by
  intro k c fr2 h1 h2
  have hk : k ≠ qb := by rintro rfl; rw [hb] at h1; simp at h1; exact ht h1.2.1
  have hown : iv.ownBlock ≠ some k := h2 iv (cellAt hb rfl)
  refine ⟨h.at h1 (fun hm => (hS k hm).elim hk hown), ?_⟩
  intro iv2 h3
  have : iv2 = iv' := by
    have h4 : b.cell? ⟨qb, 0, none⟩ = some iv' := cellAt hb' rfl
    rw [h4] at h3
    exact (Option.some.inj h3).symm
  intro e
  rw [this] at e
  rcases hi k e with h | h
  · exact hown h
  · have := lt_of_block h1; omega

/-- All but the queue, and lists of what waits, is as it was. -/
structure QF (base qb : Nat) (w w' : World) : Prop where
  os : w'.os = w.os
  tape : w'.tape = w.tape
  output : w'.output = w.output
  size : w.heap.size ≤ w'.heap.size
  low : ∀ k, k < base → k ≠ qb → k < w.heap.size → w'.heap[k]? = w.heap[k]?
  other : ∀ k o, w.heap[k]? = some o → k ≠ qb → (∀ c fr, o ≠ .cells c 134 fr) → w'.heap[k]? = some o
  pk : PK qb w w'

theorem QF.refl (base qb : Nat) (w : World) : QF base qb w w := ⟨rfl, rfl, rfl, Nat.le_refl _, fun _ _ _ _ => rfl, fun _ _ h _ _ => h, PK.refl _ _⟩
theorem QF.trans {base qb : Nat} {a b c : World} (h : QF base qb a b) (k : QF base qb b c) : QF base qb a c :=
  ⟨k.os.trans h.os, k.tape.trans h.tape, k.output.trans h.output, Nat.le_trans h.size k.size, fun i h1 h2 h3 => (k.low i h1 h2 (Nat.lt_of_lt_of_le h3 h.size)).trans (h.low i h1 h2 h3), fun i o h1 h2 h3 => k.other i o (h.other i o h1 h2 h3) h2 h3, h.pk.trans k.pk⟩
theorem QF.of_kept {base qb : Nat} {a b : World} {S : List Nat} (h : Kept S a b) (hS : ∀ k, k ∈ S → k ≠ qb → base ≤ k ∧ (k < a.heap.size → ∃ c fr, a.heap[k]? = some (.cells c 134 fr))) (hpk : PK qb a b) : QF base qb a b := by
  refine ⟨h.os, h.tape, h.output, h.size, fun k h1 h2 h3 => h.block k h3 (fun hm => by have := (hS k hm h2).1; omega), fun k o h1 h2 h3 => ?_, hpk⟩
  have hl := lt_of_block h1
  refine (h.block k hl (fun hm => ?_)).trans h1
  obtain ⟨c, fr, e⟩ := (hS k hm h2).2 hl
  rw [h1] at e
  exact h3 c fr (Option.some.inj e)
theorem QF.below {base qb : Nat} {a b : World} (h : QF base qb a b) (hq : base ≤ qb) (hs : base ≤ a.heap.size) : Below base a b :=
  ⟨h.os, h.tape, h.output, h.size, fun k hk => h.low k hk (by omega) (by omega)⟩
theorem QF.of_qi {w wr : World} {base qb : Nat} {iv : Value} {items items' : List Item} (h0 : QAt w base qb iv items) (h : QI w wr base qb iv items items') : QF base qb w wr := by
  refine QF.of_kept h.kept ?_ (PK.of_row h.kept h0.blk (by decide) h.q.blk (fun k hk => Or.inr (by simpa using hk)) (fun k hk => Or.inl hk))
  intro k hk _
  simp at hk
  rcases h0.own.2 with ⟨h1, _⟩ | ⟨g, cap, cur, h1, hb, hg, _⟩
  · rw [h1] at hk; simp [Value.ownBlock] at hk
  · rw [h1] at hk; simp [Value.ownBlock] at hk; subst hk
    exact ⟨hb, fun _ => ⟨cur, _, hg⟩⟩

/-- What waits behind Put. -/
structure QPut (w wr : World) (base qb : Nat) (iv iv' : Value) (items items' : List Item) (p : Item) : Prop where
  kept : QF base qb w wr
  len : items'.length = items.length + 1
  mem : ∀ e, e ∈ items' ↔ e ∈ items ∨ e = p
  q : QAt wr base qb iv' items'

theorem put_fin {w w1 w2 : World} {base qb : Nat} {iv iv' : Value} {items its its3 : List Item} {p : Item} (h : QPut w w1 base qb iv iv' items its p) (h2 : QI w1 w2 base qb iv' its its3) : QPut w w2 base qb iv iv' items its3 p :=
  ⟨h.kept.trans (QF.of_qi h.q h2), h2.len.trans h.len, fun e => (h2.mem e).trans (h.mem e), h2.q⟩

/-- What waits behind Take. -/
structure QTake (w wr : World) (base qb : Nat) (iv iv' : Value) (items items' : List Item) (p : Item) : Prop where
  kept : QF base qb w wr
  len : items'.length + 1 = items.length
  mem1 : p ∈ items
  mem2 : ∀ e, e ∈ items → e = p ∨ e ∈ items'
  mem3 : ∀ e, e ∈ items' → e ∈ items
  q : QAt wr base qb iv' items'

theorem put_step {w w0 w1 : World} {base qb : Nat} {iv v' : Value} {items : List Item} {p : Item} (h : QAt w base qb iv items) {o1 o2 : Obj} (h0 : SameW ((w.alloc o1).alloc o2) w0)
    (hown : w1.ownsRow base 134 4 v' (items.length + 1) (icells items ++ icell p)) (hgrow : w0.grownBy w1 iv.ownBlock) (hex : ∀ k, v'.ownBlock = some k → iv.ownBlock = some k ∨ w0.heap.size ≤ k) :
    w1.heap[qb]? = some (.cells #[iv, .func (.func 74) #[] #[]] 165 (0, 0)) ∧
    QPut w (w1.setCell ⟨qb, 0, none⟩ v') base qb iv v' items (items ++ [p]) p := by
  have hne : iv.ownBlock ≠ some qb := by
    intro e
    rcases h.own.2 with ⟨h1, _⟩ | ⟨g, cap, cur, h1, _, hg, _⟩
    · rw [h1] at e; simp [Value.ownBlock] at e
    · rw [h1] at e; simp [Value.ownBlock] at e; subst e; rw [h.blk] at hg; simp at hg
  have hK : Kept iv.ownBlock.toList w w1 := ((((Kept.refl _ w).alloc _).alloc _).trans (h0.kept _)).trans (Kept.of_grown hgrow (fun k hk => by simp [hk]))
  have hb1 := hK.at h.blk (by simpa using hne)
  have hb2 : (w1.setCell ⟨qb, 0, none⟩ v').heap[qb]? = some (.cells #[v', .func (.func 74) #[] #[]] 165 (0, 0)) := by
    rw [heap_setCell_same _ _ 0 _ _ _ hb1]; rfl
  have hK2 : Kept (qb :: iv.ownBlock.toList) w (w1.setCell ⟨qb, 0, none⟩ v') := (hK.mono (S' := qb :: iv.ownBlock.toList) (fun k hk _ => List.mem_cons_of_mem _ hk)).setCell (Or.inl (by simp)) _
  have hw0 : w0.heap.size = w.heap.size + 2 := by rw [h0.1]; simp
  refine ⟨hb1, ?_, by simp, fun e => by simp, ?_, ?_⟩
  · refine QF.of_kept hK2 ?_ (PK.of_row hK2 h.blk (by decide) hb2 (fun k hk => by simpa using hk) (fun k hk => (hex k hk).imp id (fun h => by omega)))
    intro k hk hkq
    rcases List.mem_cons.1 hk with hk | hk
    · exact absurd hk hkq
    · simp at hk
      rcases h.own.2 with ⟨h1, _⟩ | ⟨g, cap, cur, h1, hb, hg, _⟩
      · rw [h1] at hk; simp [Value.ownBlock] at hk
      · rw [h1] at hk; simp [Value.ownBlock] at hk; subst hk
        exact ⟨hb, fun _ => ⟨cur, _, hg⟩⟩
  · rw [heap_setCell_same _ _ 0 _ _ _ hb1]; rfl
  · have e : icells (items ++ [p]) = icells items ++ icell p := by simp [icells]
    rw [e, show (items ++ [p]).length = items.length + 1 by simp]
    refine ⟨hown.1, ?_⟩
    rcases hown.2 with h1 | ⟨g, cap, cur, h1, h2, hg, r⟩
    · exact .inl h1
    · refine .inr ⟨g, cap, cur, h1, h2, ?_, r⟩
      rw [Below.heap_setCell _ _ _ _ (fun e => by subst e; rw [hb1] at hg; simp at hg)]
      exact hg

set_option maxRecDepth 100000 in
set_option maxHeartbeats 3200000 in
theorem put_any (w : World) (base qb : Nat) (iv : Value) (items : List Item) (p : Item) (hn : items.length < 1000000000) (hQ : QAt w base qb iv items) (hbase : base ≤ w.heap.size) :
    Calls Tryz.prog 97 #[.pointer (some ⟨qb, 0, none⟩), .agg #[.string ⟨p.1.toArray⟩, .string ⟨p.2.1.toArray⟩, .float .f64 p.2.2.1, .int .i64 p.2.2.2]] w fun e w' => e = .returned (.tuple #[]) ∧ ∃ iv' items', QPut w w' base qb iv iv' items items' p := by
  have hsh := hQ.shape
  obtain ⟨sa, cap, rfl⟩ := hsh
  have c0 := cellAt hQ.blk (j := 0) (v := .slice sa items.length cap) rfl
  have f0 := frozen_of_row w qb 0 _ _ hQ.blk
  have hql : qb < w.heap.size := lt_of_block hQ.blk
  have HQ := hide hQ
  have c0a : ∀ o, (w.alloc o).cell? ⟨qb, 0, none⟩ = some (.slice sa items.length cap) := fun o => ((Kept.refl [] w).alloc o).cell c0 (by simp)
  have c0b : ∀ o o2, ((w.alloc o).alloc o2).cell? ⟨qb, 0, none⟩ = some (.slice sa items.length cap) := fun o o2 => (((Kept.refl [] w).alloc o).alloc o2).cell c0 (by simp)
  clear hQ
  obtain ⟨i0, hi0, hz0, hz1, hz2⟩ := info_parts Tryz.infoPair
  have HI0 := hide hi0
  have HZ0 := hide hz0
  have HZ1 := hide hz1
  have HZ2 := hide hz2
  clear hi0 hz0 hz1 hz2
  have HOWN : Hid (∀ o1 o2, (((w.alloc o1).alloc o2).drew).ownsRow base 134 4 (.slice sa items.length cap) items.length (icells items)) := fun o1 o2 => (HQ.out.own.alloc o1).alloc o2
  go_enter Tryz.func97, Tryz.ntmps97
  go_wp2
  go_region_law (refine step_append_exact rfl (.tmp 8) (.tmp 10) 163 rfl base 134 i0 (.agg #[.string ⟨#[]⟩, .string ⟨#[]⟩, .float .f64 0, .int .i64 0]) 4 48 Tryz.underlying163 HI0.out HZ0.out HZ1.out HZ2.out rfl (by decide) (.slice sa items.length cap) items.length (icells items) (by simp [Act.eval, Act.put]) (by exact HOWN.out _ _) ⟨w.heap.size + 1, 0, none⟩ 1 1 (icell p) (by simp [Act.eval, Act.put]) rfl (by exact item_new w _ p _) (one_item p) (by unfold maxLen; omega) (by omega) (by simp; omega) ?_; intro v' w1 hown hgrow hex; obtain ⟨g2, cap2, rfl⟩ := own_shape hown; have R := put_step HQ.out (by exact ⟨rfl, rfl, rfl, rfl⟩) hown hgrow hex; have d0 := cellAt R.1 (j := 0) (v := .slice sa items.length cap) rfl; have e0 := frozen_of_row w1 qb 0 _ _ R.1; have R2 := hide R.2; clear R hown hgrow hex)
  all_goals
    go_wp2_with fail
    refine (rise_any _ base qb items.length _ (items ++ [p]) (by simp; omega) (by simp) R2.out.q).mono ?_
    rintro e w3 ⟨rfl, its3, hQI⟩
    have HQI := hide hQI
    clear hQI d0 e0 c0 f0
    go_wp2
    go_end0
    exact ⟨rfl, _, its3, put_fin R2.out HQI.out⟩

set_option maxRecDepth 100000 in
set_option maxHeartbeats 3200000 in
theorem take_none (w : World) (base qb : Nat) (iv : Value) (hQ : QAt w base qb iv []) :
    Calls Tryz.prog 76 #[.pointer (some ⟨qb, 0, none⟩)] w fun e w' => e = .returned (.tuple #[.agg #[.string ⟨#[]⟩, .string ⟨#[]⟩, .float .f64 0, .int .i64 0], .bool false]) ∧ Below w.heap.size w w' := by
  have hsh := hQ.shape
  obtain ⟨sa, cap, rfl⟩ := hsh
  have c0 := cellAt hQ.blk (j := 0) (v := .slice sa 0 cap) rfl
  have hql : qb < w.heap.size := lt_of_block hQ.blk
  clear hQ
  go_enter Tryz.func76, Tryz.ntmps76
  go_wp2
  exact bodyPost_ret (v := .tuple #[.agg #[.string ⟨#[]⟩, .string ⟨#[]⟩, .float .f64 0, .int .i64 0], .bool false]) (by simp [results, Tryz.results76, go_sem]) rfl ⟨rfl, ((Below.refl _ _).alloc (Nat.le_refl _) _).alloc (by simp) _⟩

end Go.Proofs.YtfiebibpgbadlaaGreat
namespace Go.Proofs.YtfiebibpgbadlaaGreat
open Go.RowKit
set_option linter.unusedVariables false
set_option linter.unusedSimpArgs false
attribute [local go_sem] run_store_float


theorem take4 (w : World) (pa : Item) : Below w.heap.size w ((((w.alloc (Obj.cells #[Value.string ⟨#[]⟩, Value.string ⟨#[]⟩, Value.float FloatKind.f64 0, Value.int IntKind.i64 0] 134)).alloc (Obj.cells #[Value.string ⟨#[]⟩, Value.string ⟨#[]⟩, Value.float FloatKind.f64 0, Value.int IntKind.i64 0] 134)).alloc (Obj.cells #[Value.string ⟨pa.1.toArray⟩, Value.string ⟨pa.2.1.toArray⟩, Value.float FloatKind.f64 pa.2.2.1, Value.int IntKind.i64 pa.2.2.2] 134)).drew) ∧ ((((w.alloc (Obj.cells #[Value.string ⟨#[]⟩, Value.string ⟨#[]⟩, Value.float FloatKind.f64 0, Value.int IntKind.i64 0] 134)).alloc (Obj.cells #[Value.string ⟨#[]⟩, Value.string ⟨#[]⟩, Value.float FloatKind.f64 0, Value.int IntKind.i64 0] 134)).alloc (Obj.cells #[Value.string ⟨pa.1.toArray⟩, Value.string ⟨pa.2.1.toArray⟩, Value.float FloatKind.f64 pa.2.2.1, Value.int IntKind.i64 pa.2.2.2] 134)).drew).heap[w.heap.size]? = some (Obj.cells #[Value.string ⟨#[]⟩, Value.string ⟨#[]⟩, Value.float FloatKind.f64 0, Value.int IntKind.i64 0] 134) ∧ ((((w.alloc (Obj.cells #[Value.string ⟨#[]⟩, Value.string ⟨#[]⟩, Value.float FloatKind.f64 0, Value.int IntKind.i64 0] 134)).alloc (Obj.cells #[Value.string ⟨#[]⟩, Value.string ⟨#[]⟩, Value.float FloatKind.f64 0, Value.int IntKind.i64 0] 134)).alloc (Obj.cells #[Value.string ⟨pa.1.toArray⟩, Value.string ⟨pa.2.1.toArray⟩, Value.float FloatKind.f64 pa.2.2.1, Value.int IntKind.i64 pa.2.2.2] 134)).drew).heap[w.heap.size + 1]? = some (Obj.cells #[Value.string ⟨#[]⟩, Value.string ⟨#[]⟩, Value.float FloatKind.f64 0, Value.int IntKind.i64 0] 134) ∧ ((((w.alloc (Obj.cells #[Value.string ⟨#[]⟩, Value.string ⟨#[]⟩, Value.float FloatKind.f64 0, Value.int IntKind.i64 0] 134)).alloc (Obj.cells #[Value.string ⟨#[]⟩, Value.string ⟨#[]⟩, Value.float FloatKind.f64 0, Value.int IntKind.i64 0] 134)).alloc (Obj.cells #[Value.string ⟨pa.1.toArray⟩, Value.string ⟨pa.2.1.toArray⟩, Value.float FloatKind.f64 pa.2.2.1, Value.int IntKind.i64 pa.2.2.2] 134)).drew).heap[w.heap.size + 1 + 1]? = some (Obj.cells #[Value.string ⟨pa.1.toArray⟩, Value.string ⟨pa.2.1.toArray⟩, Value.float FloatKind.f64 pa.2.2.1, Value.int IntKind.i64 pa.2.2.2] 134) := by
  refine ⟨((((Below.refl w.heap.size w).alloc (Nat.le_refl _) _).alloc (by simp) _).alloc (by simp; omega) _).drew, ?_, ?_, ?_⟩
  · show (((w.alloc _).alloc _).alloc _).heap[_]? = _
    rw [Below.heap_alloc _ _ _ (by simp; omega), Below.heap_alloc _ _ _ (by simp)]
    exact heap_alloc_new _ _
  · show (((w.alloc _).alloc _).alloc _).heap[_]? = _
    rw [Below.heap_alloc _ _ _ (by simp)]
    exact heap_alloc2_new _ _ _
  · show (((w.alloc _).alloc _).alloc _).heap[_]? = _
    have h := heap_alloc_new ((w.alloc (Obj.cells #[Value.string ⟨#[]⟩, Value.string ⟨#[]⟩, Value.float FloatKind.f64 0, Value.int IntKind.i64 0] 134)).alloc (Obj.cells #[Value.string ⟨#[]⟩, Value.string ⟨#[]⟩, Value.float FloatKind.f64 0, Value.int IntKind.i64 0] 134)) (Obj.cells #[Value.string ⟨pa.1.toArray⟩, Value.string ⟨pa.2.1.toArray⟩, Value.float FloatKind.f64 pa.2.2.1, Value.int IntKind.i64 pa.2.2.2] 134)
    rw [World.size_alloc, World.size_alloc] at h
    exact h

theorem take5 {w4 : World} {base qb g cap n : Nat} {items : List Item} (pu : Item) (hQ : QAt w4 base qb (.slice (some ⟨g, 0, none⟩) (n + 1) cap) items) (hl : items.length = n + 1) :
    QAt (((((w4.setCell ⟨g, 0, none⟩ (.string ⟨pu.1.toArray⟩)).setCell ⟨g, 1, none⟩ (.string ⟨pu.2.1.toArray⟩)).setCell ⟨g, 2, none⟩ (.float .f64 pu.2.2.1)).setCell ⟨g, 3, none⟩ (.int .i64 pu.2.2.2)).drew) base qb (.slice (some ⟨g, 0, none⟩) (n + 1) cap) (items.set 0 pu) ∧ Kept [g] w4 (((((w4.setCell ⟨g, 0, none⟩ (.string ⟨pu.1.toArray⟩)).setCell ⟨g, 1, none⟩ (.string ⟨pu.2.1.toArray⟩)).setCell ⟨g, 2, none⟩ (.float .f64 pu.2.2.1)).setCell ⟨g, 3, none⟩ (.int .i64 pu.2.2.2)).drew) := by
  obtain ⟨g', cap', cur, hiv, hb, hg, h1, h2, h3, ht⟩ := hQ.read (by omega)
  simp only [Value.slice.injEq, Option.some.injEq, Addr.mk.injEq] at hiv
  obtain ⟨⟨rfl, -, -⟩, -, rfl⟩ := hiv
  have hqg : qb ≠ g := by rintro rfl; rw [hQ.blk] at hg; simp at hg
  obtain ⟨cur1, r1, r2, r3⟩ := row_set4 (k := 0) pu hg rfl ht (by omega)
  simp only [Nat.zero_mul, Nat.zero_add] at r1
  have hK : Kept [g] w4 (((((w4.setCell ⟨g, 0, none⟩ (.string ⟨pu.1.toArray⟩)).setCell ⟨g, 1, none⟩ (.string ⟨pu.2.1.toArray⟩)).setCell ⟨g, 2, none⟩ (.float .f64 pu.2.2.1)).setCell ⟨g, 3, none⟩ (.int .i64 pu.2.2.2)).drew) := (((((Kept.refl [g] w4).setCell (Or.inl (by simp)) _).setCell (Or.inl (by simp)) _).setCell (Or.inl (by simp)) _).setCell (Or.inl (by simp)) _).drew
  refine ⟨⟨hK.at hQ.blk (by simpa using hqg), ?_⟩, hK⟩
  have e : (items.set 0 pu).length = n + 1 := by simp [hl]
  rw [e]
  refine ⟨by rw [length_icells, e], .inr ⟨g, cap, cur1, rfl, hb, r1, by omega, h2, by rw [r2]; exact h3, ?_⟩⟩
  rw [← r3, hl]

theorem take6 {w5 : World} {base qb g cap n : Nat} {items : List Item} (hQ : QAt w5 base qb (.slice (some ⟨g, 0, none⟩) (n + 1) cap) items) (hl : items.length = n + 1) :
    QAt (((((w5.setCell ⟨g, n * 4, none⟩ (.string ⟨#[]⟩)).setCell ⟨g, n * 4 + 1, none⟩ (.string ⟨#[]⟩)).setCell ⟨g, n * 4 + 2, none⟩ (.float .f64 0)).setCell ⟨g, n * 4 + 3, none⟩ (.int .i64 0)).drew) base qb (.slice (some ⟨g, 0, none⟩) (n + 1) cap) (items.set n ([], [], 0, 0)) ∧ Kept [g] w5 (((((w5.setCell ⟨g, n * 4, none⟩ (.string ⟨#[]⟩)).setCell ⟨g, n * 4 + 1, none⟩ (.string ⟨#[]⟩)).setCell ⟨g, n * 4 + 2, none⟩ (.float .f64 0)).setCell ⟨g, n * 4 + 3, none⟩ (.int .i64 0)).drew) := by
  obtain ⟨g', cap', cur, hiv, hb, hg, h1, h2, h3, ht⟩ := hQ.read (by omega)
  simp only [Value.slice.injEq, Option.some.injEq, Addr.mk.injEq] at hiv
  obtain ⟨⟨rfl, -, -⟩, -, rfl⟩ := hiv
  have hqg : qb ≠ g := by rintro rfl; rw [hQ.blk] at hg; simp at hg
  obtain ⟨cur1, r1, r2, r3⟩ := row_set4 (k := n) ([], [], 0, 0) hg rfl ht (by omega)
  have hK : Kept [g] w5 (((((w5.setCell ⟨g, n * 4, none⟩ (.string ⟨#[]⟩)).setCell ⟨g, n * 4 + 1, none⟩ (.string ⟨#[]⟩)).setCell ⟨g, n * 4 + 2, none⟩ (.float .f64 0)).setCell ⟨g, n * 4 + 3, none⟩ (.int .i64 0)).drew) := (((((Kept.refl [g] w5).setCell (Or.inl (by simp)) _).setCell (Or.inl (by simp)) _).setCell (Or.inl (by simp)) _).setCell (Or.inl (by simp)) _).drew
  refine ⟨⟨hK.at hQ.blk (by simpa using hqg), ?_⟩, hK⟩
  have e : (items.set n (([], [], 0, 0) : Item)).length = n + 1 := by simp [hl]
  rw [e]
  refine ⟨by rw [length_icells, e], .inr ⟨g, cap, cur1, rfl, hb, r1, by omega, h2, by rw [r2]; exact h3, ?_⟩⟩
  rw [← r3, hl]

/-- cut back by one. -/
theorem take7 {w6 : World} {base qb g cap n : Nat} {items : List Item} (hQ : QAt w6 base qb (.slice (some ⟨g, 0, none⟩) (n + 1) cap) items) (hl : items.length = n + 1) :
    QAt (w6.setCell ⟨qb, 0, none⟩ (.slice (some ⟨g, 0, none⟩) n cap)) base qb (.slice (some ⟨g, 0, none⟩) n cap) (items.take n) ∧ Kept [qb] w6 (w6.setCell ⟨qb, 0, none⟩ (.slice (some ⟨g, 0, none⟩) n cap)) := by
  obtain ⟨g', cap', cur, hiv, hb, hg, h1, h2, h3, ht⟩ := hQ.read (by omega)
  simp only [Value.slice.injEq, Option.some.injEq, Addr.mk.injEq] at hiv
  obtain ⟨⟨rfl, -, -⟩, -, rfl⟩ := hiv
  have hqg : qb ≠ g := by rintro rfl; rw [hQ.blk] at hg; simp at hg
  have hK : Kept [qb] w6 (w6.setCell ⟨qb, 0, none⟩ (.slice (some ⟨g, 0, none⟩) n cap)) := (Kept.refl _ _).setCell (Or.inl (by simp)) _
  refine ⟨⟨by rw [heap_setCell_same _ _ 0 _ _ _ hQ.blk]; rfl, ?_⟩, hK⟩
  have e : (items.take n).length = n := by simp [hl]
  rw [e]
  refine ⟨by rw [length_icells, e], .inr ⟨g, cap, cur, rfl, hb, hK.at hg (by simp; omega), by omega, h2, h3, ?_⟩⟩
  have e2 : icells (items.take n) = (icells items).take (n * 4) := by
    have : items = items.take n ++ items.drop n := (List.take_append_drop n items).symm
    have h : icells items = icells (items.take n) ++ icells (items.drop n) := by
      unfold icells
      rw [← List.flatMap_append, List.take_append_drop]
    rw [h, List.take_left' (by rw [length_icells, e])]
  rw [e2, ← ht, List.take_take, hl]
  congr 1
  omega

theorem take_fin {w w4 w8 : World} {base qb g cap n : Nat} {items its8 : List Item} {pa pu : Item} (hQ : QAt w base qb (.slice (some ⟨g, 0, none⟩) (n + 1) cap) items) (hlen : items.length = n + 1)
    (hpa : ∃ h : 0 < items.length, items[0] = pa) (hpu : ∃ h : n < items.length, items[n] = pu) (hb4 : Below w.heap.size w w4) (hK : Kept [g, qb] w4 w8) {w7 : World} {I7 : List Item} (hQI : QI w7 w8 base qb (.slice (some ⟨g, 0, none⟩) n cap) I7 its8)
    (hI7 : I7 = ((items.set 0 pu).set n (([], [], 0, 0) : Item)).take n) :
    QTake w ((((w8.setCell ⟨w.heap.size, 0, none⟩ (.string ⟨pa.1.toArray⟩)).setCell ⟨w.heap.size, 1, none⟩ (.string ⟨pa.2.1.toArray⟩)).setCell ⟨w.heap.size, 2, none⟩ (.float .f64 pa.2.2.1)).setCell ⟨w.heap.size, 3, none⟩ (.int .i64 pa.2.2.2))
      base qb (.slice (some ⟨g, 0, none⟩) (n + 1) cap) (.slice (some ⟨g, 0, none⟩) n cap) items its8 pa := by
  obtain ⟨g', cap', cur, hiv, hb, hg, h1, h2, h3, ht⟩ := hQ.read (by omega)
  simp only [Value.slice.injEq, Option.some.injEq, Addr.mk.injEq] at hiv
  obtain ⟨⟨rfl, -, -⟩, -, rfl⟩ := hiv
  have hgl := lt_of_block hg
  have hql := lt_of_block hQ.blk
  have hqg : qb ≠ g := by rintro rfl; rw [hQ.blk] at hg; simp at hg
  have hH : Kept [w.heap.size] w8 ((((w8.setCell ⟨w.heap.size, 0, none⟩ (.string ⟨pa.1.toArray⟩)).setCell ⟨w.heap.size, 1, none⟩ (.string ⟨pa.2.1.toArray⟩)).setCell ⟨w.heap.size, 2, none⟩ (.float .f64 pa.2.2.1)).setCell ⟨w.heap.size, 3, none⟩ (.int .i64 pa.2.2.2)) :=
    ((((Kept.refl _ _).setCell (Or.inl (by simp)) _).setCell (Or.inl (by simp)) _).setCell (Or.inl (by simp)) _).setCell (Or.inl (by simp)) _
  obtain ⟨hp0, hpa⟩ := hpa
  obtain ⟨hpn, hpu⟩ := hpu
  have hmI : ∀ e, e ∈ its8 ↔ e ∈ I7 := hQI.mem
  refine ⟨?_, ?_, ?_, ?_, ?_, ?_⟩
  · have k1 : Kept [g, qb] w w4 := Kept.of_below_size hb4
    have k2 := k1.trans hK
    have k3 := k2.trans (S := [g, qb]) (Kept.refl _ _)
    have k4 : Kept [g, qb] w ((((w8.setCell ⟨w.heap.size, 0, none⟩ (.string ⟨pa.1.toArray⟩)).setCell ⟨w.heap.size, 1, none⟩ (.string ⟨pa.2.1.toArray⟩)).setCell ⟨w.heap.size, 2, none⟩ (.float .f64 pa.2.2.1)).setCell ⟨w.heap.size, 3, none⟩ (.int .i64 pa.2.2.2)) := by
      refine ⟨hH.os.trans k2.os, hH.tape.trans k2.tape, hH.output.trans k2.output, Nat.le_trans k2.size hH.size, fun k hk hn => ?_⟩
      rw [hH.block k (Nat.lt_of_lt_of_le hk k2.size) (by simp; omega)]
      exact k2.block k hk hn
    refine QF.of_kept (S := [g, qb]) k4 ?_ (PK.of_row k4 hQ.blk (by decide) (hH.at hQI.q.blk (by simp; omega)) (fun k hk => by simp [Value.ownBlock] at hk ⊢; rcases hk with h | h; exact Or.inr h.symm; exact Or.inl h) (fun k hk => Or.inl (by simpa [Value.ownBlock] using hk)))
    · intro k hk hkq
      simp at hk
      rcases hk with rfl | rfl
      · exact ⟨hb, fun _ => ⟨cur, _, hg⟩⟩
      · exact absurd rfl hkq
  · rw [hQI.len, hI7]; simp [hlen]
  · rw [← hpa]; exact List.getElem_mem _
  · intro e he
    obtain ⟨k, hk, rfl⟩ := List.getElem_of_mem he
    by_cases h0 : k = 0
    · subst h0; exact Or.inl hpa
    · right
      rw [hmI, hI7, List.mem_iff_getElem]
      by_cases hkn : k = n
      · subst hkn
        refine ⟨0, by simp [hlen]; omega, ?_⟩
        rw [List.getElem_take, List.getElem_set_ne (by omega), List.getElem_set_self]
        exact hpu.symm
      · refine ⟨k, by simp [hlen]; omega, ?_⟩
        rw [List.getElem_take, List.getElem_set_ne (by omega), List.getElem_set_ne (by omega)]
  · intro e he
    rw [hmI, hI7, List.mem_iff_getElem] at he
    obtain ⟨k, hk, rfl⟩ := he
    simp [hlen] at hk
    rw [List.getElem_take, List.getElem_set_ne (by omega)]
    by_cases h0 : k = 0
    · subst h0
      rw [List.getElem_set_self, ← hpu]; exact List.getElem_mem _
    · rw [List.getElem_set_ne (by omega)]; exact List.getElem_mem _
  · have hq8 := hQI.q
    refine ⟨hH.at hq8.blk (by simp; omega), hq8.own.1, ?_⟩
    rcases hq8.own.2 with hn | ⟨g2, cap2, cur2, e1, e2, e3, r⟩
    · exact .inl hn
    · refine .inr ⟨g2, cap2, cur2, e1, e2, hH.at e3 ?_, r⟩
      simp only [Value.slice.injEq, Option.some.injEq, Addr.mk.injEq] at e1
      simp; omega

set_option maxRecDepth 100000 in
set_option maxHeartbeats 3200000 in
theorem take_many (w : World) (base qb g cap n : Nat) (items : List Item) (hlen : items.length = n + 1) (hn : n ≤ 1000000000) (hQ : QAt w base qb (.slice (some ⟨g, 0, none⟩) (n + 1) cap) items) :
    Calls Tryz.prog 76 #[.pointer (some ⟨qb, 0, none⟩)] w fun e w' => ∃ p iv' items', e = .returned (.tuple #[.agg #[.string ⟨p.1.toArray⟩, .string ⟨p.2.1.toArray⟩, .float .f64 p.2.2.1, .int .i64 p.2.2.2], .bool true]) ∧
      QTake w w' base qb (.slice (some ⟨g, 0, none⟩) (n + 1) cap) iv' items items' p := by
  obtain ⟨pa, hpa, hgl, hql, c0, c1, p0, p1, p2, p3⟩ := hQ.cells (i := 0) (by omega)
  obtain ⟨pu, hpu, _, _, _, _, q0, q1, q2, q3⟩ := hQ.cells (i := n) (by omega)
  have hcap : n + 1 ≤ cap := by
    obtain ⟨g', cap', cur', hiv, _, hg', hc, _⟩ := hQ.read (by omega)
    simp only [Value.slice.injEq] at hiv
    omega
  have hfz : ∀ o, w.frozen? ⟨g, o, none⟩ = false := by
    obtain ⟨g', cap', cur', hiv, _, hg', _⟩ := hQ.read (by omega)
    simp only [Value.slice.injEq, Option.some.injEq, Addr.mk.injEq] at hiv
    intro o
    rw [hiv.1.1]
    exact frozen_of_row w g' o _ _ hg'
  have f0 := frozen_of_row w qb 0 _ _ hQ.blk
  have hqg : qb ≠ g := by
    obtain ⟨g', cap', cur', hiv, _, hg', _⟩ := hQ.read (by omega)
    simp only [Value.slice.injEq, Option.some.injEq, Addr.mk.injEq] at hiv
    rw [hiv.1.1]
    rintro rfl; rw [hQ.blk] at hg'; simp at hg'
  have HQ := hide hQ
  have HPA := hide hpa
  have HPU := hide hpu
  have HLEN := hide hlen
  clear hQ hpa hpu hlen
  simp only [Nat.zero_mul, Nat.zero_add] at p0 p1 p2 p3
  have c0a : ∀ o1 o2, ((w.alloc o1).alloc o2).cell? ⟨qb, 0, none⟩ = w.cell? ⟨qb, 0, none⟩ := fun o1 o2 => (Below.cell (((Below.refl w.heap.size w).alloc (Nat.le_refl _) o1).alloc (by simp) o2) (p := ⟨qb, 0, none⟩) hql)
  have c0b : ∀ o1 o2 o3, (((w.alloc o1).alloc o2).alloc o3).cell? ⟨qb, 0, none⟩ = w.cell? ⟨qb, 0, none⟩ := fun o1 o2 o3 => (Below.cell ((((Below.refl w.heap.size w).alloc (Nat.le_refl _) o1).alloc (by simp) o2).alloc (by simp; omega) o3) (p := ⟨qb, 0, none⟩) hql)
  have p0a : ∀ o1 o2, ((w.alloc o1).alloc o2).cell? ⟨g, 0, none⟩ = w.cell? ⟨g, 0, none⟩ := fun o1 o2 => (Below.cell (((Below.refl w.heap.size w).alloc (Nat.le_refl _) o1).alloc (by simp) o2) (p := ⟨g, 0, none⟩) hgl)
  have p0b : ∀ o1 o2 o3, (((w.alloc o1).alloc o2).alloc o3).cell? ⟨g, 0, none⟩ = w.cell? ⟨g, 0, none⟩ := fun o1 o2 o3 => (Below.cell ((((Below.refl w.heap.size w).alloc (Nat.le_refl _) o1).alloc (by simp) o2).alloc (by simp; omega) o3) (p := ⟨g, 0, none⟩) hgl)
  have p1a : ∀ o1 o2, ((w.alloc o1).alloc o2).cell? ⟨g, 1, none⟩ = w.cell? ⟨g, 1, none⟩ := fun o1 o2 => (Below.cell (((Below.refl w.heap.size w).alloc (Nat.le_refl _) o1).alloc (by simp) o2) (p := ⟨g, 1, none⟩) hgl)
  have p1b : ∀ o1 o2 o3, (((w.alloc o1).alloc o2).alloc o3).cell? ⟨g, 1, none⟩ = w.cell? ⟨g, 1, none⟩ := fun o1 o2 o3 => (Below.cell ((((Below.refl w.heap.size w).alloc (Nat.le_refl _) o1).alloc (by simp) o2).alloc (by simp; omega) o3) (p := ⟨g, 1, none⟩) hgl)
  have p2a : ∀ o1 o2, ((w.alloc o1).alloc o2).cell? ⟨g, 2, none⟩ = w.cell? ⟨g, 2, none⟩ := fun o1 o2 => (Below.cell (((Below.refl w.heap.size w).alloc (Nat.le_refl _) o1).alloc (by simp) o2) (p := ⟨g, 2, none⟩) hgl)
  have p2b : ∀ o1 o2 o3, (((w.alloc o1).alloc o2).alloc o3).cell? ⟨g, 2, none⟩ = w.cell? ⟨g, 2, none⟩ := fun o1 o2 o3 => (Below.cell ((((Below.refl w.heap.size w).alloc (Nat.le_refl _) o1).alloc (by simp) o2).alloc (by simp; omega) o3) (p := ⟨g, 2, none⟩) hgl)
  have p3a : ∀ o1 o2, ((w.alloc o1).alloc o2).cell? ⟨g, 3, none⟩ = w.cell? ⟨g, 3, none⟩ := fun o1 o2 => (Below.cell (((Below.refl w.heap.size w).alloc (Nat.le_refl _) o1).alloc (by simp) o2) (p := ⟨g, 3, none⟩) hgl)
  have p3b : ∀ o1 o2 o3, (((w.alloc o1).alloc o2).alloc o3).cell? ⟨g, 3, none⟩ = w.cell? ⟨g, 3, none⟩ := fun o1 o2 o3 => (Below.cell ((((Below.refl w.heap.size w).alloc (Nat.le_refl _) o1).alloc (by simp) o2).alloc (by simp; omega) o3) (p := ⟨g, 3, none⟩) hgl)
  go_enter Tryz.func76, Tryz.ntmps76
  go_wp2
  go_region
  have T4 := take4 w pa
  generalize ((((w.alloc (Obj.cells #[Value.string ⟨#[]⟩, Value.string ⟨#[]⟩, Value.float FloatKind.f64 0, Value.int IntKind.i64 0] 134)).alloc (Obj.cells #[Value.string ⟨#[]⟩, Value.string ⟨#[]⟩, Value.float FloatKind.f64 0, Value.int IntKind.i64 0] 134)).alloc (Obj.cells #[Value.string ⟨pa.1.toArray⟩, Value.string ⟨pa.2.1.toArray⟩, Value.float FloatKind.f64 pa.2.2.1, Value.int IntKind.i64 pa.2.2.2] 134)).drew) = w4 at T4 ⊢
  obtain ⟨hb4, z0, z1, z2⟩ := T4
  have hQ4 := HQ.out.below hb4
  have C0 := (hb4.cell (p := ⟨qb, 0, none⟩) hql).trans c0
  have P0 := (hb4.cell (p := ⟨g, 0, none⟩) hgl).trans p0
  have P1 := (hb4.cell (p := ⟨g, 1, none⟩) hgl).trans p1
  have P2 := (hb4.cell (p := ⟨g, 2, none⟩) hgl).trans p2
  have P3 := (hb4.cell (p := ⟨g, 3, none⟩) hgl).trans p3
  have Q0 := (hb4.cell (p := ⟨g, n * 4, none⟩) hgl).trans q0
  have Q1 := (hb4.cell (p := ⟨g, n * 4 + 1, none⟩) hgl).trans q1
  have Q2 := (hb4.cell (p := ⟨g, n * 4 + 2, none⟩) hgl).trans q2
  have Q3 := (hb4.cell (p := ⟨g, n * 4 + 3, none⟩) hgl).trans q3
  have FZ : ∀ o, w4.frozen? ⟨g, o, none⟩ = false := fun o => (hb4.frozen (p := ⟨g, o, none⟩) hgl).trans (hfz o)
  have F0 := (hb4.frozen (p := ⟨qb, 0, none⟩) hql).trans f0
  have HB4 := hide hb4
  have HQ4 := hide hQ4
  have Z0 := hide z0
  have Z1 := hide z1
  have Z2 := hide z2
  clear c0a c0b p0a p0b p1a p1b p2a p2b p3a p3b c0 c1 p0 p1 p2 p3 q0 q1 q2 q3 hfz f0 hb4 hQ4 z0 z1 z2
  go_wp2
  go_region
  have T5 := take5 pu HQ4.out HLEN.out
  generalize (((((w4.setCell ⟨g, 0, none⟩ (.string ⟨pu.1.toArray⟩)).setCell ⟨g, 1, none⟩ (.string ⟨pu.2.1.toArray⟩)).setCell ⟨g, 2, none⟩ (.float .f64 pu.2.2.1)).setCell ⟨g, 3, none⟩ (.int .i64 pu.2.2.2)).drew) = w5 at T5 ⊢
  obtain ⟨hQ5, hK5⟩ := T5
  have hl5 : (items.set 0 pu).length = n + 1 := by have := HLEN.out; simp [this]
  obtain ⟨pn, _, _, _, c0, _, m0, m1, m2, m3⟩ := hQ5.cells (i := n) (by omega)
  have f0 := frozen_of_row w5 qb 0 _ _ hQ5.blk
  have FZ5 : ∀ o, w5.frozen? ⟨g, o, none⟩ = false := by
    obtain ⟨g', cap', cur', hiv, _, hg', _⟩ := hQ5.read (by omega)
    simp only [Value.slice.injEq, Option.some.injEq, Addr.mk.injEq] at hiv
    intro o
    rw [hiv.1.1]
    exact frozen_of_row w5 g' o _ _ hg'
  have y1 := hK5.at Z1.out (by simp; omega)
  have y10 := cellAt y1 (j := 0) (v := .string ⟨#[]⟩) rfl
  have y11 := cellAt y1 (j := 1) (v := .string ⟨#[]⟩) rfl
  have y12 := cellAt y1 (j := 2) (v := .float .f64 0) rfl
  have y13 := cellAt y1 (j := 3) (v := .int .i64 0) rfl
  have HQ5 := hide hQ5
  have HK5 := hide hK5
  have HL5 := hide hl5
  clear C0 P0 P1 P2 P3 Q0 Q1 Q2 Q3 FZ F0 hQ5 hK5 y1 hl5
  go_wp2
  go_region
  have T6 := take6 HQ5.out HL5.out
  generalize (((((w5.setCell ⟨g, n * 4, none⟩ (.string ⟨#[]⟩)).setCell ⟨g, n * 4 + 1, none⟩ (.string ⟨#[]⟩)).setCell ⟨g, n * 4 + 2, none⟩ (.float .f64 0)).setCell ⟨g, n * 4 + 3, none⟩ (.int .i64 0)).drew) = w6 at T6 ⊢
  obtain ⟨hQ6, hK6⟩ := T6
  clear c0 f0 m0 m1 m2 m3 FZ5 y10 y11 y12 y13
  have c0 := cellAt hQ6.blk (j := 0) (v := .slice (some ⟨g, 0, none⟩) (n + 1) cap) rfl
  have f0 := frozen_of_row w6 qb 0 _ _ hQ6.blk
  have hl6 : ((items.set 0 pu).set n (([], [], 0, 0) : Item)).length = n + 1 := by have := HLEN.out; simp [this]
  have T7 := take7 hQ6 hl6
  have HQ6 := hide hQ6
  have HK6 := hide hK6
  have HT7 := hide T7
  clear hQ6 hK6 T7 hl6
  go_wp2_with fail
  refine (sink_any _ base qb _ _ (by have := HLEN.out; simp [this]; omega) HT7.out.1).mono ?_
  rintro e w8 ⟨rfl, its8, hQI⟩
  have hKall : Kept [g, qb] w4 w8 := by
    refine ((HK5.out.mono (S' := [g, qb]) (by simp)).trans (HK6.out.mono (S' := [g, qb]) (by simp))).trans ((HT7.out.2.mono (S' := [g, qb]) (by simp)).trans (hQI.kept.mono (S' := [g, qb]) (by simp [Value.ownBlock])))
  have y0 := hKall.at Z0.out (by simp; omega)
  have y2 := hKall.at Z2.out (by simp; omega)
  have hfin := take_fin HQ.out HLEN.out HPA.out HPU.out HB4.out hKall hQI rfl
  have v0 := cellAt y0 (j := 0) (v := .string ⟨#[]⟩) rfl
  have v1 := cellAt y0 (j := 1) (v := .string ⟨#[]⟩) rfl
  have v2 := cellAt y0 (j := 2) (v := .float .f64 0) rfl
  have v3 := cellAt y0 (j := 3) (v := .int .i64 0) rfl
  have u0 := cellAt y2 (j := 0) (v := .string ⟨pa.1.toArray⟩) rfl
  have u1 := cellAt y2 (j := 1) (v := .string ⟨pa.2.1.toArray⟩) rfl
  have u2 := cellAt y2 (j := 2) (v := .float .f64 pa.2.2.1) rfl
  have u3 := cellAt y2 (j := 3) (v := .int .i64 pa.2.2.2) rfl
  have vf : ∀ o, w8.frozen? ⟨w.heap.size, o, none⟩ = false := fun o => frozen_of_row w8 _ o _ _ y0
  have HFIN := hide hfin
  clear hKall y0 y2 hfin hQI c0 f0
  go_wp2
  refine bodyPost_ret (v := .tuple #[.agg #[.string ⟨pa.1.toArray⟩, .string ⟨pa.2.1.toArray⟩, .float .f64 pa.2.2.1, .int .i64 pa.2.2.2], .bool true]) (by simp [results, Tryz.results76, go_sem, v0, v1, v2, v3]) rfl ?_
  exact ⟨pa, _, its8, rfl, HFIN.out⟩

theorem take_some (w : World) (base qb : Nat) (iv : Value) (items : List Item) (hn : items.length ≤ 1000000000) (hp : 0 < items.length) (hQ : QAt w base qb iv items) :
    Calls Tryz.prog 76 #[.pointer (some ⟨qb, 0, none⟩)] w fun e w' => ∃ p iv' items', e = .returned (.tuple #[.agg #[.string ⟨p.1.toArray⟩, .string ⟨p.2.1.toArray⟩, .float .f64 p.2.2.1, .int .i64 p.2.2.2], .bool true]) ∧
      QTake w w' base qb iv iv' items items' p := by
  obtain ⟨g, cap, cur, rfl, _⟩ := hQ.read hp
  have e : items.length = (items.length - 1) + 1 := by omega
  generalize items.length - 1 = n at e
  rw [e] at hQ ⊢
  exact take_many w base qb g cap n items e (by omega) hQ
end Go.Proofs.YtfiebibpgbadlaaGreat
