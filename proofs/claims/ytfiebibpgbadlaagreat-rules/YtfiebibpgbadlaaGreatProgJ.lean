import Derived.Test.YtfiebibpgbadlaaGreatProgI
namespace Go.Proofs.YtfiebibpgbadlaaGreat
open Go.RowKit
set_option linter.unusedVariables false
set_option linter.unusedSimpArgs false
attribute [local go_sem] run_store_float

def pend (items : List Item) : List Hw.Rl := items.map fun p => (p.1, p.2.1)

def sblock (M : Nat) (rv : Value) (qb : Nat) (ag : Int) : Obj := .cells #[.int .i64 M, rv, .pointer (some ⟨qb, 0, none⟩), .int .i64 ag] 137 (0, 0)

/-- The finding of rules, as memory holds it. -/
structure SS (w : World) (B sb qb M : Nat) (rv : Value) (R E : List Hw.Rl) : Prop where
  lo1 : B ≤ sb
  lo2 : B ≤ qb
  pos : 0 < B
  mx : ∃ m, w.cell? ⟨0, 0, none⟩ = some (.int .i64 m)
  rul : RulesAt w B rv R
  st : ∃ ag iv items, w.heap[sb]? = some (sblock M rv qb ag) ∧ QAt w B qb iv items ∧ pend items = E

theorem SS.size {w : World} {B sb qb M : Nat} {rv : Value} {R E : List Hw.Rl} (h : SS w B sb qb M rv R E) : B ≤ w.heap.size := by
  obtain ⟨ag, iv, items, hb, _⟩ := h.st
  have := lt_of_block hb
  have := h.lo1
  omega

theorem RulesAt.qf {w w' : World} {B qb : Nat} {rv : Value} {R : List Hw.Rl} (h : RulesAt w B rv R) (hq : QF B qb w w') (hqt : ∀ c fr, w.heap[qb]? ≠ some (.cells c 77 fr)) : RulesAt w' B rv R := by
  refine ⟨h.1, ?_⟩
  rcases h.2 with h1 | ⟨g, cap, cur, rfl, hb, hg, r⟩
  · exact .inl h1
  · exact .inr ⟨g, cap, cur, rfl, hb, hq.other g _ hg (by rintro rfl; exact hqt _ _ hg) (by intro c fr e; simp at e), r⟩

theorem QAt.not_rule {w : World} {base qb : Nat} {iv : Value} {items : List Item} (h : QAt w base qb iv items) : ∀ c fr, w.heap[qb]? ≠ some (.cells c 77 fr) := by
  intro c fr e; rw [h.blk] at e; simp at e

theorem sblock_ne {w : World} {B sb qb M : Nat} {rv iv : Value} {ag : Int} {items : List Item} (hb : w.heap[sb]? = some (sblock M rv qb ag)) (hq : QAt w B qb iv items) : sb ≠ qb := by
  rintro rfl; rw [hq.blk] at hb; simp [sblock] at hb

theorem SS.below {w w' : World} {B sb qb M : Nat} {rv : Value} {R E : List Hw.Rl} (h : SS w B sb qb M rv R E) (hb : Below w.heap.size w w') : SS w' B sb qb M rv R E := by
  obtain ⟨ag, iv, items, h1, h2, h3⟩ := h.st
  obtain ⟨m, hm⟩ := h.mx
  refine ⟨h.lo1, h.lo2, h.pos, ⟨m, (hb.cell (p := ⟨0, 0, none⟩) (World.block_lt_of_cell? w _ hm)).trans hm⟩, ?_, ag, iv, items, (hb.block _ (lt_of_block h1)).trans h1, h2.below hb, h3⟩
  refine ⟨h.rul.1, ?_⟩
  rcases h.rul.2 with h1 | ⟨g, cap, cur, rfl, hbg, hg, r⟩
  · exact .inl h1
  · exact .inr ⟨g, cap, cur, rfl, hbg, (hb.block g (lt_of_block hg)).trans hg, r⟩

theorem SS.qlt {w : World} {B sb qb M : Nat} {rv : Value} {R E : List Hw.Rl} (h : SS w B sb qb M rv R E) : qb < w.heap.size := by
  obtain ⟨ag, iv, items, h1, h2, h3⟩ := h.st
  exact lt_of_block h2.blk

theorem SS.same {w w' : World} {B sb qb M : Nat} {rv : Value} {R E : List Hw.Rl} (h : SS w B sb qb M rv R E) (hb : SameW w w') : SS w' B sb qb M rv R E :=
  h.below ⟨hb.2.1, hb.2.2.1, hb.2.2.2, by rw [hb.1]; exact Nat.le_refl _, fun k _ => by rw [hb.1]⟩

/-- What is neither the search nor its queue, nor a list of what waits (nor the row X), is as it was. -/
structure SF (sb qb : Nat) (X : Option Nat) (w w' : World) : Prop where
  size : w.heap.size ≤ w'.heap.size
  blk : ∀ k o, w.heap[k]? = some o → k ≠ sb → k ≠ qb → some k ≠ X → (∀ c fr, o ≠ .cells c 134 fr) → w'.heap[k]? = some o
  pk : PK qb w w'

theorem SF.refl (sb qb : Nat) (X : Option Nat) (w : World) : SF sb qb X w w := ⟨Nat.le_refl _, fun _ _ h _ _ _ _ => h, PK.refl _ _⟩
theorem SF.trans {sb qb : Nat} {X : Option Nat} {a b c : World} (h : SF sb qb X a b) (k : SF sb qb X b c) : SF sb qb X a c :=
  ⟨Nat.le_trans h.size k.size, fun i o h1 h2 h3 h4 h5 => k.blk i o (h.blk i o h1 h2 h3 h4 h5) h2 h3 h4 h5, h.pk.trans k.pk⟩
theorem SF.mono {sb qb : Nat} {X : Option Nat} {a b : World} (h : SF sb qb none a b) : SF sb qb X a b :=
  ⟨h.size, fun i o h1 h2 h3 h4 h5 => h.blk i o h1 h2 h3 (by simp) h5, h.pk⟩
theorem SF.of_below {sb qb : Nat} {X : Option Nat} {a b : World} (h : Below a.heap.size a b) (hq : qb < a.heap.size) : SF sb qb X a b :=
  ⟨h.size, fun i o h1 _ _ _ _ => (h.block i (lt_of_block h1)).trans h1, PK.of_below h hq⟩
theorem SF.of_same {sb qb : Nat} {X : Option Nat} {a b : World} (h : SameW a b) : SF sb qb X a b :=
  ⟨by rw [h.1]; exact Nat.le_refl _, fun i o h1 _ _ _ _ => by rw [h.1]; exact h1, PK.of_same h⟩
theorem SF.of_kept {sb qb : Nat} {X : Option Nat} {a b : World} {S : List Nat} (h : Kept S a b) (hS : ∀ k, k ∈ S → k = sb ∨ k = qb ∨ some k = X) (hpk : PK qb a b) : SF sb qb X a b :=
  ⟨h.size, fun i o h1 h2 h3 h4 _ => h.at h1 (fun hm => by rcases hS i hm with h | h | h; exact h2 h; exact h3 h; exact h4 h), hpk⟩
theorem SF.of_qf {B sb qb : Nat} {X : Option Nat} {a b : World} (h : QF B qb a b) : SF sb qb X a b :=
  ⟨h.size, fun i o h1 _ h3 _ h5 => h.other i o h1 h3 h5, h.pk⟩

theorem pend_put {items items' : List Item} {p : Item} (h : ∀ e, e ∈ items' ↔ e ∈ items ∨ e = p) : ∀ e, e ∈ pend items' ↔ e ∈ pend items ∨ e = (p.1, p.2.1) := by
  intro e
  unfold pend
  rw [List.mem_map, List.mem_map]
  constructor
  · rintro ⟨x, hx, rfl⟩
    rcases (h x).1 hx with hx | rfl
    · exact Or.inl ⟨x, hx, rfl⟩
    · exact Or.inr rfl
  · rintro (⟨x, hx, rfl⟩ | rfl)
    · exact ⟨x, (h x).2 (Or.inl hx), rfl⟩
    · exact ⟨p, (h p).2 (Or.inr rfl), rfl⟩

theorem wait_fin {w w2 w3 : World} {B sb qb M : Nat} {rv iv iv3 : Value} {R : List Hw.Rl} {items items3 : List Item} {l r : Hw.Wd} {ag : Int} {b2 : Nat} (hS : SS w B sb qb M rv R (pend items)) (h2 : SameW w w2) (hQ : QAt w B qb iv items)
    (hP : QPut w2 w3 B qb iv iv3 items items3 (l, r, b2, ag)) (hb : w3.heap[sb]? = some (sblock M rv qb ag)) (ag' : Int) {e : Ending} (he : e = .returned (.tuple #[]) := by rfl) :
    e = .returned (.tuple #[]) ∧ (Below B w (w3.setCell ⟨sb, 3, none⟩ (.int .i64 ag')) ∧ SF sb qb none w (w3.setCell ⟨sb, 3, none⟩ (.int .i64 ag'))) ∧ ∃ E', E'.length = (pend items).length + 1 ∧ (∀ e, e ∈ E' ↔ e ∈ pend items ∨ e = (l, r)) ∧ SS (w3.setCell ⟨sb, 3, none⟩ (.int .i64 ag')) B sb qb M rv R E' := by
  have hsz := hS.size
  have hb2 : Below B w w2 := ⟨h2.2.1, h2.2.2.1, h2.2.2.2, by rw [h2.1]; exact Nat.le_refl _, fun k _ => by rw [h2.1]⟩
  have hb3 : Below B w2 w3 := hP.kept.below hS.lo2 (by rw [h2.1]; exact hsz)
  have hall : Below B w (w3.setCell ⟨sb, 3, none⟩ (.int .i64 ag')) := (hb2.trans hb3).setCell hS.lo1 _
  have hK : Kept [sb] w3 (w3.setCell ⟨sb, 3, none⟩ (.int .i64 ag')) := (Kept.refl _ _).setCell (Or.inl (by simp)) _
  have hS2 := hS.same h2
  obtain ⟨m, hm⟩ := hS.mx
  have hsq : sb ≠ qb := sblock_ne hb hP.q
  refine ⟨he, ⟨hall, ((SF.of_same h2).trans (SF.of_qf hP.kept)).trans (SF.of_kept hK (by simp) (PK.of_kept hK (lt_of_block hP.q.blk) (by simp; omega) (by simp only [List.mem_singleton]; rintro k rfl c fr e; rw [hb] at e; simp [sblock] at e)))⟩, pend items3, by simp [pend, hP.len], pend_put hP.mem, hS.lo1, hS.lo2, hS.pos, ⟨m, (hall.cell (p := ⟨0, 0, none⟩) hS.pos).trans hm⟩, ?_, ag', iv3, items3, ?_, ?_, rfl⟩
  · refine RulesAt.kept (hS2.rul.qf hP.kept (by rw [h2.1]; exact hQ.not_rule)) hK ?_
    intro k hk e
    simp at hk; subst hk
    have hr3 := hS2.rul.qf hP.kept (by rw [h2.1]; exact hQ.not_rule)
    rcases hr3.2 with ⟨h1, _⟩ | ⟨g, cap, cur, h1, _, hg, _⟩
    · rw [h1] at e; simp [Value.ownBlock] at e
    · rw [h1] at e; simp [Value.ownBlock] at e; subst e; rw [hb] at hg; simp [sblock] at hg
  · rw [heap_setCell_same _ _ 3 _ _ _ hb]; rfl
  · refine ⟨hK.at hP.q.blk (by simp; omega), hP.q.own.1, ?_⟩
    rcases hP.q.own.2 with h1 | ⟨g, cap, cur, h1, h2', hg, r'⟩
    · exact .inl h1
    · refine .inr ⟨g, cap, cur, h1, h2', hK.at hg ?_, r'⟩
      simp; rintro rfl; rw [hb] at hg; simp [sblock] at hg

set_option maxRecDepth 100000 in
set_option maxHeartbeats 3200000 in
theorem wait_any (w : World) (B sb qb M : Nat) (rv : Value) (R E : List Hw.Rl) (l r : Hw.Wd) (hl : l.length ≤ 6) (hr : r.length ≤ 6) (hn : E.length < 1000000000) (hS : SS w B sb qb M rv R E) :
    Calls Tryz.prog 75 #[.pointer (some ⟨sb, 0, none⟩), .string ⟨l.toArray⟩, .string ⟨r.toArray⟩] w fun e w' => e = .returned (.tuple #[]) ∧ (Below B w w' ∧ SF sb qb none w w') ∧ ∃ E', E'.length = E.length + 1 ∧ (∀ e, e ∈ E' ↔ e ∈ E ∨ e = (l, r)) ∧ SS w' B sb qb M rv R E' := by
  obtain ⟨ag, iv, items, hb, hq, rfl⟩ := hS.st
  have hsq := sblock_ne hb hq
  have c2 : w.cell? ⟨sb, 2, none⟩ = some (.pointer (some ⟨qb, 0, none⟩)) := cellAt hb rfl
  have c3 : w.cell? ⟨sb, 3, none⟩ = some (.int .i64 ag) := cellAt hb rfl
  have hbs := hS.size
  have hn2 : items.length < 1000000000 := by simpa [pend] using hn
  have HS := hide hS
  have HB := hide hb
  have HQ := hide hq
  clear hS hb hq hn
  go_enter Tryz.func75, Tryz.ntmps75
  go_wp2
  go_region_held3 (fun w' => w'.cell? ⟨sb, 2, none⟩ = some (.pointer (some ⟨qb, 0, none⟩)) ∧ w'.cell? ⟨sb, 3, none⟩ = some (.int .i64 ag)) (go_keep)
    (first
      | (go_at_call 98; refine (weigh_any _ _ _ _ (by simp [ByteArray.size]; omega) (by simp [ByteArray.size]; omega)).mono ?_; rintro e w2 ⟨b2, n2, rfl, rfl⟩)
      | (go_at_call 97; refine (put_any _ B qb iv items (l, r, b2, ag) hn2 (by exact HQ.out.same ⟨rfl, rfl, rfl, rfl⟩) (by exact hbs)).mono ?_; rintro e w3 ⟨rfl, iv3, items3, hP⟩; have hb3 := hP.kept.other sb _ (by exact HB.out) hsq (by intro c fr e; simp [sblock] at e); have k2 : w3.cell? ⟨sb, 2, none⟩ = some (.pointer (some ⟨qb, 0, none⟩)) := cellAt hb3 rfl; have k3 : w3.cell? ⟨sb, 3, none⟩ = some (.int .i64 ag) := cellAt hb3 rfl; have k4 := frozen_of_row w3 sb 3 _ _ hb3; have HP := hide hP; have HB3 := hide hb3; clear hP hb3))
  all_goals
    go_wp2
    go_end0
    exact wait_fin HS.out (by exact ⟨rfl, rfl, rfl, rfl⟩) HQ.out HP.out HB3.out _
end Go.Proofs.YtfiebibpgbadlaaGreat
