import Derived.Test.YtfiebibpgbadlaaGreatProgF
import Derived.Test.YtfiebibpgbadlaaGreatRefF
import Derived.Test.YtfiebibpgbadlaaGreatMe
namespace Go.Proofs.YtfiebibpgbadlaaGreat
open Go.RowKit
set_option linter.unusedVariables false
set_option linter.unusedSimpArgs false
attribute [local go_sem] run_store_float

theorem Tryz.infoPair : (Tryz.prog.info? 134).map (fun i => (i.zero, i.size, i.bytes)) = some (some (.agg #[.string ⟨#[]⟩, .string ⟨#[]⟩, .float .f64 0, .int .i64 0]), 4, 48) := by kernel_rfl

theorem one_item (p : Item) : ∀ u ∈ icell p, u.oneCell' = true := by
  intro u hu; simp [icell] at hu; rcases hu with rfl | rfl | rfl | rfl <;> rfl

theorem item_new (w : World) (o : Obj) (p : Item) (t : TypeId) : ∀ j x, (icell p)[j]? = some x → (((w.alloc o).alloc (.cells #[Value.string ⟨p.1.toArray⟩, Value.string ⟨p.2.1.toArray⟩, Value.float .f64 p.2.2.1, Value.int .i64 p.2.2.2] t)).drew).cell? ((⟨w.heap.size + 1, 0, none⟩ : Addr).add j) = some x := by
  intro j x hj
  have hadd : (⟨w.heap.size + 1, 0, none⟩ : Addr).add j = ⟨w.heap.size + 1, j, none⟩ := by unfold Addr.add; split <;> simp_all
  rw [hadd]
  show ((w.alloc o).alloc _).cell? _ = _
  rw [cell_second]
  simpa [icell] using hj

/-- k is no list of what waits in the queue. -/
def NR (qb k : Nat) (w : World) : Prop := ∀ iv, w.cell? ⟨qb, 0, none⟩ = some iv → iv.ownBlock ≠ some k

/-- A pair that is no list of what waits is as it was. -/
def PK (qb : Nat) (w w' : World) : Prop := ∀ k c fr, w.heap[k]? = some (.cells c 134 fr) → NR qb k w → w'.heap[k]? = some (.cells c 134 fr) ∧ NR qb k w'

theorem PK.refl (qb : Nat) (w : World) : PK qb w w := fun _ _ _ h1 h2 => ⟨h1, h2⟩
theorem PK.trans {qb : Nat} {a b c : World} (h : PK qb a b) (k : PK qb b c) : PK qb a c := fun i x fr h1 h2 => k i x fr (h i x fr h1 h2).1 (h i x fr h1 h2).2
theorem PK.of_kept {qb : Nat} {a b : World} {S : List Nat} (h : Kept S a b) (hq : qb < a.heap.size) (hn : qb ∉ S) (hS : ∀ k, k ∈ S → ∀ c fr, a.heap[k]? ≠ some (.cells c 134 fr)) : PK qb a b := by
  intro k c fr h1 h2
  refine ⟨h.at h1 (fun hm => hS k hm c fr h1), ?_⟩
  intro iv hiv
  rw [World.cell?_of_block (w := a) (h.block qb hq hn)] at hiv
  exact h2 iv hiv
theorem PK.of_below {qb : Nat} {a b : World} (h : Below a.heap.size a b) (hq : qb < a.heap.size) : PK qb a b := PK.of_kept (S := []) (Kept.of_below_size h) hq (by simp) (by simp)
theorem PK.of_same {qb : Nat} {a b : World} (h : SameW a b) : PK qb a b := by
  intro k c fr h1 h2
  refine ⟨by rw [h.1]; exact h1, ?_⟩
  intro iv hiv
  rw [World.cell?_of_block (w := a) (by rw [h.1])] at hiv
  exact h2 iv hiv
theorem PK.of_row {qb : Nat} {a b : World} {S : List Nat} {iv iv' f f' : Value} {t t' : TypeId} {fr fr' : Nat × Nat} (h : Kept S a b) (hb : a.heap[qb]? = some (.cells #[iv, f] t fr)) (ht : t ≠ 134) (hb' : b.heap[qb]? = some (.cells #[iv', f'] t' fr'))
    (hS : ∀ k, k ∈ S → k = qb ∨ iv.ownBlock = some k) (hi : ∀ k, iv'.ownBlock = some k → iv.ownBlock = some k ∨ a.heap.size ≤ k) : PK qb a b := by
  intro k c fr2 h1 h2
  have hk : k ≠ qb := by rintro rfl; rw [hb] at h1; simp at h1; exact ht h1.2.1
  have hown : iv.ownBlock ≠ some k := h2 iv (cellAt hb rfl)
  refine ⟨h.at h1 (fun hm => (hS k hm).elim hk hown), ?_⟩
  intro iv2 h3
  have : iv2 = iv' := by
    have h4 : b.cell? ⟨qb, 0, none⟩ = some iv' := cellAt hb' rfl
    rw [h4] at h3
    exact (Option.some.inj h3).symm
  intro e
  rw [this] at e
  rcases hi k e with h | h
  · exact hown h
  · have := lt_of_block h1; omega

/-- All but the queue, and lists of what waits, is as it was. -/
structure QF (base qb : Nat) (w w' : World) : Prop where
  os : w'.os = w.os
  tape : w'.tape = w.tape
  output : w'.output = w.output
  size : w.heap.size ≤ w'.heap.size
  low : ∀ k, k < base → k ≠ qb → k < w.heap.size → w'.heap[k]? = w.heap[k]?
  other : ∀ k o, w.heap[k]? = some o → k ≠ qb → (∀ c fr, o ≠ .cells c 134 fr) → w'.heap[k]? = some o
  pk : PK qb w w'

theorem QF.refl (base qb : Nat) (w : World) : QF base qb w w := ⟨rfl, rfl, rfl, Nat.le_refl _, fun _ _ _ _ => rfl, fun _ _ h _ _ => h, PK.refl _ _⟩
theorem QF.trans {base qb : Nat} {a b c : World} (h : QF base qb a b) (k : QF base qb b c) : QF base qb a c :=
  ⟨k.os.trans h.os, k.tape.trans h.tape, k.output.trans h.output, Nat.le_trans h.size k.size, fun i h1 h2 h3 => (k.low i h1 h2 (Nat.lt_of_lt_of_le h3 h.size)).trans (h.low i h1 h2 h3), fun i o h1 h2 h3 => k.other i o (h.other i o h1 h2 h3) h2 h3, h.pk.trans k.pk⟩
theorem QF.of_kept {base qb : Nat} {a b : World} {S : List Nat} (h : Kept S a b) (hS : ∀ k, k ∈ S → k ≠ qb → base ≤ k ∧ (k < a.heap.size → ∃ c fr, a.heap[k]? = some (.cells c 134 fr))) (hpk : PK qb a b) : QF base qb a b := by
  refine ⟨h.os, h.tape, h.output, h.size, fun k h1 h2 h3 => h.block k h3 (fun hm => by have := (hS k hm h2).1; omega), fun k o h1 h2 h3 => ?_, hpk⟩
  have hl := lt_of_block h1
  refine (h.block k hl (fun hm => ?_)).trans h1
  obtain ⟨c, fr, e⟩ := (hS k hm h2).2 hl
  rw [h1] at e
  exact h3 c fr (Option.some.inj e)
theorem QF.below {base qb : Nat} {a b : World} (h : QF base qb a b) (hq : base ≤ qb) (hs : base ≤ a.heap.size) : Below base a b :=
  ⟨h.os, h.tape, h.output, h.size, fun k hk => h.low k hk (by omega) (by omega)⟩
theorem QF.of_qi {w wr : World} {base qb : Nat} {iv : Value} {items items' : List Item} (h0 : QAt w base qb iv items) (h : QI w wr base qb iv items items') : QF base qb w wr := by
  refine QF.of_kept h.kept ?_ (PK.of_row h.kept h0.blk (by decide) h.q.blk (fun k hk => Or.inr (by simpa using hk)) (fun k hk => Or.inl hk))
  intro k hk _
  simp at hk
  rcases h0.own.2 with ⟨h1, _⟩ | ⟨g, cap, cur, h1, hb, hg, _⟩
  · rw [h1] at hk; simp [Value.ownBlock] at hk
  · rw [h1] at hk; simp [Value.ownBlock] at hk; subst hk
    exact ⟨hb, fun _ => ⟨cur, _, hg⟩⟩

/-- What waits behind Put. -/
structure QPut (w wr : World) (base qb : Nat) (iv iv' : Value) (items items' : List Item) (p : Item) : Prop where
  kept : QF base qb w wr
  len : items'.length = items.length + 1
  mem : ∀ e, e ∈ items' ↔ e ∈ items ∨ e = p
  q : QAt wr base qb iv' items'

theorem put_fin {w w1 w2 : World} {base qb : Nat} {iv iv' : Value} {items its its3 : List Item} {p : Item} (h : QPut w w1 base qb iv iv' items its p) (h2 : QI w1 w2 base qb iv' its its3) : QPut w w2 base qb iv iv' items its3 p :=
  ⟨h.kept.trans (QF.of_qi h.q h2), h2.len.trans h.len, fun e => (h2.mem e).trans (h.mem e), h2.q⟩

/-- What waits behind Take. -/
structure QTake (w wr : World) (base qb : Nat) (iv iv' : Value) (items items' : List Item) (p : Item) : Prop where
  kept : QF base qb w wr
  len : items'.length + 1 = items.length
  mem1 : p ∈ items
  mem2 : ∀ e, e ∈ items → e = p ∨ e ∈ items'
  mem3 : ∀ e, e ∈ items' → e ∈ items
  q : QAt wr base qb iv' items'

theorem put_step {w w0 w1 : World} {base qb : Nat} {iv v' : Value} {items : List Item} {p : Item} (h : QAt w base qb iv items) {o1 o2 : Obj} (h0 : SameW ((w.alloc o1).alloc o2) w0)
    (hown : w1.ownsRow base 134 4 v' (items.length + 1) (icells items ++ icell p)) (hgrow : w0.grownBy w1 iv.ownBlock) (hex : ∀ k, v'.ownBlock = some k → iv.ownBlock = some k ∨ w0.heap.size ≤ k) :
    w1.heap[qb]? = some (.cells #[iv, .func (.func 74) #[] #[]] 165 (0, 0)) ∧
    QPut w (w1.setCell ⟨qb, 0, none⟩ v') base qb iv v' items (items ++ [p]) p := by
  have hne : iv.ownBlock ≠ some qb := by
    intro e
    rcases h.own.2 with ⟨h1, _⟩ | ⟨g, cap, cur, h1, _, hg, _⟩
    · rw [h1] at e; simp [Value.ownBlock] at e
    · rw [h1] at e; simp [Value.ownBlock] at e; subst e; rw [h.blk] at hg; simp at hg
  have hK : Kept iv.ownBlock.toList w w1 := ((((Kept.refl _ w).alloc _).alloc _).trans (h0.kept _)).trans (Kept.of_grown hgrow (fun k hk => by simp [hk]))
  have hb1 := hK.at h.blk (by simpa using hne)
  have hb2 : (w1.setCell ⟨qb, 0, none⟩ v').heap[qb]? = some (.cells #[v', .func (.func 74) #[] #[]] 165 (0, 0)) := by
    rw [heap_setCell_same _ _ 0 _ _ _ hb1]; rfl
  have hK2 : Kept (qb :: iv.ownBlock.toList) w (w1.setCell ⟨qb, 0, none⟩ v') := (hK.mono (S' := qb :: iv.ownBlock.toList) (fun k hk _ => List.mem_cons_of_mem _ hk)).setCell (Or.inl (by simp)) _
  have hw0 : w0.heap.size = w.heap.size + 2 := by rw [h0.1]; simp
  refine ⟨hb1, ?_, by simp, fun e => by simp, ?_, ?_⟩
  · refine QF.of_kept hK2 ?_ (PK.of_row hK2 h.blk (by decide) hb2 (fun k hk => by simpa using hk) (fun k hk => (hex k hk).imp id (fun h => by omega)))
    intro k hk hkq
    rcases List.mem_cons.1 hk with hk | hk
    · exact absurd hk hkq
    · simp at hk
      rcases h.own.2 with ⟨h1, _⟩ | ⟨g, cap, cur, h1, hb, hg, _⟩
      · rw [h1] at hk; simp [Value.ownBlock] at hk
      · rw [h1] at hk; simp [Value.ownBlock] at hk; subst hk
        exact ⟨hb, fun _ => ⟨cur, _, hg⟩⟩
  · rw [heap_setCell_same _ _ 0 _ _ _ hb1]; rfl
  · have e : icells (items ++ [p]) = icells items ++ icell p := by simp [icells]
    rw [e, show (items ++ [p]).length = items.length + 1 by simp]
    refine ⟨hown.1, ?_⟩
    rcases hown.2 with h1 | ⟨g, cap, cur, h1, h2, hg, r⟩
    · exact .inl h1
    · refine .inr ⟨g, cap, cur, h1, h2, ?_, r⟩
      rw [Below.heap_setCell _ _ _ _ (fun e => by subst e; rw [hb1] at hg; simp at hg)]
      exact hg

set_option maxRecDepth 100000 in
set_option maxHeartbeats 3200000 in
theorem put_any (w : World) (base qb : Nat) (iv : Value) (items : List Item) (p : Item) (hn : items.length < 1000000000) (hQ : QAt w base qb iv items) (hbase : base ≤ w.heap.size) :
    Calls Tryz.prog 97 #[.pointer (some ⟨qb, 0, none⟩), .agg #[.string ⟨p.1.toArray⟩, .string ⟨p.2.1.toArray⟩, .float .f64 p.2.2.1, .int .i64 p.2.2.2]] w fun e w' => e = .returned (.tuple #[]) ∧ ∃ iv' items', QPut w w' base qb iv iv' items items' p := by
  have hsh := hQ.shape
  obtain ⟨sa, cap, rfl⟩ := hsh
  have c0 := cellAt hQ.blk (j := 0) (v := .slice sa items.length cap) rfl
  have f0 := frozen_of_row w qb 0 _ _ hQ.blk
  have hql : qb < w.heap.size := lt_of_block hQ.blk
  have HQ := hide hQ
  have c0a : ∀ o, (w.alloc o).cell? ⟨qb, 0, none⟩ = some (.slice sa items.length cap) := fun o => ((Kept.refl [] w).alloc o).cell c0 (by simp)
  have c0b : ∀ o o2, ((w.alloc o).alloc o2).cell? ⟨qb, 0, none⟩ = some (.slice sa items.length cap) := fun o o2 => (((Kept.refl [] w).alloc o).alloc o2).cell c0 (by simp)
  clear hQ
  obtain ⟨i0, hi0, hz0, hz1, hz2⟩ := info_parts Tryz.infoPair
  have HI0 := hide hi0
  have HZ0 := hide hz0
  have HZ1 := hide hz1
  have HZ2 := hide hz2
  clear hi0 hz0 hz1 hz2
  have HOWN : Hid (∀ o1 o2, (((w.alloc o1).alloc o2).drew).ownsRow base 134 4 (.slice sa items.length cap) items.length (icells items)) := fun o1 o2 => (HQ.out.own.alloc o1).alloc o2
  go_enter Tryz.func97, Tryz.ntmps97
  go_wp2
  go_region_law (refine step_append_exact rfl (.tmp 8) (.tmp 10) 163 rfl base 134 i0 (.agg #[.string ⟨#[]⟩, .string ⟨#[]⟩, .float .f64 0, .int .i64 0]) 4 48 Tryz.underlying163 HI0.out HZ0.out HZ1.out HZ2.out rfl (by decide) (.slice sa items.length cap) items.length (icells items) (by simp [Act.eval, Act.put]) (by exact HOWN.out _ _) ⟨w.heap.size + 1, 0, none⟩ 1 1 (icell p) (by simp [Act.eval, Act.put]) rfl (by exact item_new w _ p _) (one_item p) (by unfold maxLen; omega) (by omega) (by simp; omega) ?_; intro v' w1 hown hgrow hex; obtain ⟨g2, cap2, rfl⟩ := own_shape hown; have R := put_step HQ.out (by exact ⟨rfl, rfl, rfl, rfl⟩) hown hgrow hex; have d0 := cellAt R.1 (j := 0) (v := .slice sa items.length cap) rfl; have e0 := frozen_of_row w1 qb 0 _ _ R.1; have R2 := hide R.2; clear R hown hgrow hex)
  all_goals
    go_wp2_with fail
    refine (rise_any _ base qb items.length _ (items ++ [p]) (by simp; omega) (by simp) R2.out.q).mono ?_
    rintro e w3 ⟨rfl, its3, hQI⟩
    have HQI := hide hQI
    clear hQI d0 e0 c0 f0
    go_wp2
    go_end0
    exact ⟨rfl, _, its3, put_fin R2.out HQI.out⟩

set_option maxRecDepth 100000 in
set_option maxHeartbeats 3200000 in
theorem take_none (w : World) (base qb : Nat) (iv : Value) (hQ : QAt w base qb iv []) :
    Calls Tryz.prog 76 #[.pointer (some ⟨qb, 0, none⟩)] w fun e w' => e = .returned (.tuple #[.agg #[.string ⟨#[]⟩, .string ⟨#[]⟩, .float .f64 0, .int .i64 0], .bool false]) ∧ Below w.heap.size w w' := by
  have hsh := hQ.shape
  obtain ⟨sa, cap, rfl⟩ := hsh
  have c0 := cellAt hQ.blk (j := 0) (v := .slice sa 0 cap) rfl
  have hql : qb < w.heap.size := lt_of_block hQ.blk
  clear hQ
  go_enter Tryz.func76, Tryz.ntmps76
  go_wp2
  exact bodyPost_ret (v := .tuple #[.agg #[.string ⟨#[]⟩, .string ⟨#[]⟩, .float .f64 0, .int .i64 0], .bool false]) (by simp [results, Tryz.results76, go_sem]) rfl ⟨rfl, ((Below.refl _ _).alloc (Nat.le_refl _) _).alloc (by simp) _⟩

end Go.Proofs.YtfiebibpgbadlaaGreat
