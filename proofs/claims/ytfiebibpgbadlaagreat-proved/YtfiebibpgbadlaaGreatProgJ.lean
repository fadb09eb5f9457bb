import Derived.Test.YtfiebibpgbadlaaGreatProgH
namespace Go.Proofs.YtfiebibpgbadlaaGreat
open Go.RowKit
set_option linter.unusedVariables false
set_option linter.unusedSimpArgs false
attribute [local go_sem] run_store_float

def pend (items : List Item) : List Hw.Rl := items.map fun p => (p.1, p.2.1)

def sblock (M : Nat) (rv : Value) (qb : Nat) (ag : Int) : Obj := .cells #[.int .i64 M, rv, .pointer (some ⟨qb, 0, none⟩), .int .i64 ag] 137 (0, 0)

/-- The finding of rules, as memory holds it. -/
structure SS (w : World) (B sb qb M : Nat) (rv : Value) (R E : List Hw.Rl) : Prop where
  lo1 : B ≤ sb
  lo2 : B ≤ qb
  pos : 0 < B
  mx : ∃ m, w.cell? ⟨0, 0, none⟩ = some (.int .i64 m)
  rul : RulesAt w B rv R
  st : ∃ ag iv items, w.heap[sb]? = some (sblock M rv qb ag) ∧ QAt w B qb iv items ∧ pend items = E

theorem SS.size {w : World} {B sb qb M : Nat} {rv : Value} {R E : List Hw.Rl} (h : SS w B sb qb M rv R E) : B ≤ w.heap.size := by
  obtain ⟨ag, iv, items, hb, _⟩ := h.st
  have := lt_of_block hb
  have := h.lo1
  omega

theorem RulesAt.qf {w w' : World} {B qb : Nat} {rv : Value} {R : List Hw.Rl} (h : RulesAt w B rv R) (hq : QF B qb w w') (hqt : ∀ c fr, w.heap[qb]? ≠ some (.cells c 77 fr)) : RulesAt w' B rv R := by
  refine ⟨h.1, ?_⟩
  rcases h.2 with h1 | ⟨g, cap, cur, rfl, hb, hg, r⟩
  · exact .inl h1
  · exact .inr ⟨g, cap, cur, rfl, hb, hq.other g _ hg (by rintro rfl; exact hqt _ _ hg) (by intro c fr e; simp at e), r⟩

theorem QAt.not_rule {w : World} {base qb : Nat} {iv : Value} {items : List Item} (h : QAt w base qb iv items) : ∀ c fr, w.heap[qb]? ≠ some (.cells c 77 fr) := by
  intro c fr e; rw [h.blk] at e; simp at e

theorem sblock_ne {w : World} {B sb qb M : Nat} {rv iv : Value} {ag : Int} {items : List Item} (hb : w.heap[sb]? = some (sblock M rv qb ag)) (hq : QAt w B qb iv items) : sb ≠ qb := by
  rintro rfl; rw [hq.blk] at hb; simp [sblock] at hb

theorem SS.below {w w' : World} {B sb qb M : Nat} {rv : Value} {R E : List Hw.Rl} (h : SS w B sb qb M rv R E) (hb : Below w.heap.size w w') : SS w' B sb qb M rv R E := by
  obtain ⟨ag, iv, items, h1, h2, h3⟩ := h.st
  obtain ⟨m, hm⟩ := h.mx
  refine ⟨h.lo1, h.lo2, h.pos, ⟨m, (hb.cell (p := ⟨0, 0, none⟩) (World.block_lt_of_cell? w _ hm)).trans hm⟩, ?_, ag, iv, items, (hb.block _ (lt_of_block h1)).trans h1, h2.below hb, h3⟩
  refine ⟨h.rul.1, ?_⟩
  rcases h.rul.2 with h1 | ⟨g, cap, cur, rfl, hbg, hg, r⟩
  · exact .inl h1
  · exact .inr ⟨g, cap, cur, rfl, hbg, (hb.block g (lt_of_block hg)).trans hg, r⟩

theorem SS.qlt {w : World} {B sb qb M : Nat} {rv : Value} {R E : List Hw.Rl} (h : SS w B sb qb M rv R E) : qb < w.heap.size := by
  obtain ⟨ag, iv, items, h1, h2, h3⟩ := h.st
  exact lt_of_block h2.blk

theorem SS.same {w w' : World} {B sb qb M : Nat} {rv : Value} {R E : List Hw.Rl} (h : SS w B sb qb M rv R E) (hb : SameW w w') : SS w' B sb qb M rv R E :=
  h.below ⟨hb.2.1, hb.2.2.1, hb.2.2.2, by rw [hb.1]; exact Nat.le_refl _, fun k _ => by rw [hb.1]⟩

/-- What is neither the search nor its queue, nor a list of what waits (nor the row X), is as it was. -/
structure SF (sb qb : Nat) (X : Option Nat) (w w' : World) : Prop where
  size : w.heap.size ≤ w'.heap.size
  blk : ∀ k o, w.heap[k]? = some o → k ≠ sb → k ≠ qb → some k ≠ X → (∀ c fr, o ≠ .cells c 134 fr) → w'.heap[k]? = some o
  pk : PK qb w w'

theorem SF.refl (sb qb : Nat) (X : Option Nat) (w : World) : SF sb qb X w w := ⟨Nat.le_refl _, fun _ _ h _ _ _ _ => h, PK.refl _ _⟩
theorem SF.trans {sb qb : Nat} {X : Option Nat} {a b c : World} (h : SF sb qb X a b) (k : SF sb qb X b c) : SF sb qb X a c :=
  ⟨Nat.le_trans h.size k.size, fun i o h1 h2 h3 h4 h5 => k.blk i o (h.blk i o h1 h2 h3 h4 h5) h2 h3 h4 h5, h.pk.trans k.pk⟩
theorem SF.mono {sb qb : Nat} {X : Option Nat} {a b : World} (h : SF sb qb none a b) : SF sb qb X a b :=
  ⟨h.size, fun i o h1 h2 h3 h4 h5 => h.blk i o h1 h2 h3 (by simp) h5, h.pk⟩
theorem SF.of_below {sb qb : Nat} {X : Option Nat} {a b : World} (h : Below a.heap.size a b) (hq : qb < a.heap.size) : SF sb qb X a b :=
  ⟨h.size, fun i o h1 _ _ _ _ => (h.block i (lt_of_block h1)).trans h1, PK.of_below h hq⟩
theorem SF.of_same {sb qb : Nat} {X : Option Nat} {a b : World} (h : SameW a b) : SF sb qb X a b :=
  ⟨by rw [h.1]; exact Nat.le_refl _, fun i o h1 _ _ _ _ => by rw [h.1]; exact h1, PK.of_same h⟩
theorem SF.of_kept {sb qb : Nat} {X : Option Nat} {a b : World} {S : List Nat} (h : Kept S a b) (hS : ∀ k, k ∈ S → k = sb ∨ k = qb ∨ some k = X) (hpk : PK qb a b) : SF sb qb X a b :=
  ⟨h.size, fun i o h1 h2 h3 h4 _ => h.at h1 (fun hm => by rcases hS i hm with h | h | h; exact h2 h; exact h3 h; exact h4 h), hpk⟩
theorem SF.of_qf {B sb qb : Nat} {X : Option Nat} {a b : World} (h : QF B qb a b) : SF sb qb X a b :=
  ⟨h.size, fun i o h1 _ h3 _ h5 => h.other i o h1 h3 h5, h.pk⟩

theorem pend_put {items items' : List Item} {p : Item} (h : ∀ e, e ∈ items' ↔ e ∈ items ∨ e = p) : ∀ e, e ∈ pend items' ↔ e ∈ pend items ∨ e = (p.1, p.2.1) := by
  intro e
  unfold pend
  rw [List.mem_map, List.mem_map]
  constructor
  · rintro ⟨x, hx, rfl⟩
    rcases (h x).1 hx with hx | rfl
    · exact Or.inl ⟨x, hx, rfl⟩
    · exact Or.inr rfl
  · rintro (⟨x, hx, rfl⟩ | rfl)
    · exact ⟨x, (h x).2 (Or.inl hx), rfl⟩
    · exact ⟨p, (h p).2 (Or.inr rfl), rfl⟩

theorem wait_fin {w w2 w3 : World} {B sb qb M : Nat} {rv iv iv3 : Value} {R : List Hw.Rl} {items items3 : List Item} {l r : Hw.Wd} {ag : Int} {b2 : Nat} (hS : SS w B sb qb M rv R (pend items)) (h2 : SameW w w2) (hQ : QAt w B qb iv items)
    (hP : QPut w2 w3 B qb iv iv3 items items3 (l, r, b2, ag)) (hb : w3.heap[sb]? = some (sblock M rv qb ag)) (ag' : Int) {e : Ending} (he : e = .returned (.tuple #[]) := by rfl) :
    e = .returned (.tuple #[]) ∧ (Below B w (w3.setCell ⟨sb, 3, none⟩ (.int .i64 ag')) ∧ SF sb qb none w (w3.setCell ⟨sb, 3, none⟩ (.int .i64 ag'))) ∧ ∃ E', E'.length = (pend items).length + 1 ∧ (∀ e, e ∈ E' ↔ e ∈ pend items ∨ e = (l, r)) ∧ SS (w3.setCell ⟨sb, 3, none⟩ (.int .i64 ag')) B sb qb M rv R E' := by
  have hsz := hS.size
  have hb2 : Below B w w2 := ⟨h2.2.1, h2.2.2.1, h2.2.2.2, by rw [h2.1]; exact Nat.le_refl _, fun k _ => by rw [h2.1]⟩
  have hb3 : Below B w2 w3 := hP.kept.below hS.lo2 (by rw [h2.1]; exact hsz)
  have hall : Below B w (w3.setCell ⟨sb, 3, none⟩ (.int .i64 ag')) := (hb2.trans hb3).setCell hS.lo1 _
  have hK : Kept [sb] w3 (w3.setCell ⟨sb, 3, none⟩ (.int .i64 ag')) := (Kept.refl _ _).setCell (Or.inl (by simp)) _
  have hS2 := hS.same h2
  obtain ⟨m, hm⟩ := hS.mx
  have hsq : sb ≠ qb := sblock_ne hb hP.q
  refine ⟨he, ⟨hall, ((SF.of_same h2).trans (SF.of_qf hP.kept)).trans (SF.of_kept hK (by simp) (PK.of_kept hK (lt_of_block hP.q.blk) (by simp; omega) (by simp only [List.mem_singleton]; rintro k rfl c fr e; rw [hb] at e; simp [sblock] at e)))⟩, pend items3, by simp [pend, hP.len], pend_put hP.mem, hS.lo1, hS.lo2, hS.pos, ⟨m, (hall.cell (p := ⟨0, 0, none⟩) hS.pos).trans hm⟩, ?_, ag', iv3, items3, ?_, ?_, rfl⟩
  · refine RulesAt.kept (hS2.rul.qf hP.kept (by rw [h2.1]; exact hQ.not_rule)) hK ?_
    intro k hk e
    simp at hk; subst hk
    have hr3 := hS2.rul.qf hP.kept (by rw [h2.1]; exact hQ.not_rule)
    rcases hr3.2 with ⟨h1, _⟩ | ⟨g, cap, cur, h1, _, hg, _⟩
    · rw [h1] at e; simp [Value.ownBlock] at e
    · rw [h1] at e; simp [Value.ownBlock] at e; subst e; rw [hb] at hg; simp [sblock] at hg
  · rw [heap_setCell_same _ _ 3 _ _ _ hb]; rfl
  · refine ⟨hK.at hP.q.blk (by simp; omega), hP.q.own.1, ?_⟩
    rcases hP.q.own.2 with h1 | ⟨g, cap, cur, h1, h2', hg, r'⟩
    · exact .inl h1
    · refine .inr ⟨g, cap, cur, h1, h2', hK.at hg ?_, r'⟩
      simp; rintro rfl; rw [hb] at hg; simp [sblock] at hg

set_option maxRecDepth 100000 in
set_option maxHeartbeats 3200000 in
theorem wait_any (w : World) (B sb qb M : Nat) (rv : Value) (R E : List Hw.Rl) (l r : Hw.Wd) (hl : l.length ≤ 6) (hr : r.length ≤ 6) (hn : E.length < 1000000000) (hS : SS w B sb qb M rv R E) :
    Calls Tryz.prog 75 #[.pointer (some ⟨sb, 0, none⟩), .string ⟨l.toArray⟩, .string ⟨r.toArray⟩] w fun e w' => e = .returned (.tuple #[]) ∧ (Below B w w' ∧ SF sb qb none w w') ∧ ∃ E', E'.length = E.length + 1 ∧ (∀ e, e ∈ E' ↔ e ∈ E ∨ e = (l, r)) ∧ SS w' B sb qb M rv R E' := by
  obtain ⟨ag, iv, items, hb, hq, rfl⟩ := hS.st
  have hsq := sblock_ne hb hq
  have c2 : w.cell? ⟨sb, 2, none⟩ = some (.pointer (some ⟨qb, 0, none⟩)) := cellAt hb rfl
  have c3 : w.cell? ⟨sb, 3, none⟩ = some (.int .i64 ag) := cellAt hb rfl
  have hbs := hS.size
  have hn2 : items.length < 1000000000 := by simpa [pend] using hn
  have HS := hide hS
  have HB := hide hb
  have HQ := hide hq
  clear hS hb hq hn
  go_enter Tryz.func75, Tryz.ntmps75
  go_wp2
  go_region_held3 (fun w' => w'.cell? ⟨sb, 2, none⟩ = some (.pointer (some ⟨qb, 0, none⟩)) ∧ w'.cell? ⟨sb, 3, none⟩ = some (.int .i64 ag)) (go_keep)
    (first
      | (go_at_call 98; refine (weigh_any _ _ _ _ (by simp [ByteArray.size]; omega) (by simp [ByteArray.size]; omega)).mono ?_; rintro e w2 ⟨b2, n2, rfl, rfl⟩)
      | (go_at_call 97; refine (put_any _ B qb iv items (l, r, b2, ag) hn2 (by exact HQ.out.same ⟨rfl, rfl, rfl, rfl⟩) (by exact hbs)).mono ?_; rintro e w3 ⟨rfl, iv3, items3, hP⟩; have hb3 := hP.kept.other sb _ (by exact HB.out) hsq (by intro c fr e; simp [sblock] at e); have k2 : w3.cell? ⟨sb, 2, none⟩ = some (.pointer (some ⟨qb, 0, none⟩)) := cellAt hb3 rfl; have k3 : w3.cell? ⟨sb, 3, none⟩ = some (.int .i64 ag) := cellAt hb3 rfl; have k4 := frozen_of_row w3 sb 3 _ _ hb3; have HP := hide hP; have HB3 := hide hb3; clear hP hb3))
  all_goals
    go_wp2
    go_end0
    exact wait_fin HS.out (by exact ⟨rfl, rfl, rfl, rfl⟩) HQ.out HP.out HB3.out _
end Go.Proofs.YtfiebibpgbadlaaGreat
namespace Go.Proofs.YtfiebibpgbadlaaGreat
open Go.RowKit
set_option linter.unusedVariables false
set_option linter.unusedSimpArgs false

/-- What two rules make of one word. -/
def Lap (M : Nat) (a b : Hw.Rl) (k : Nat) (e : Hw.Rl) : Prop := ∃ p o q, a.1 = p ++ o ∧ b.1 = o ++ q ∧ p ≠ [] ∧ o ≠ [] ∧ q ≠ [] ∧ (p ++ o ++ q).length ≤ M ∧ o.length < k ∧ e = (a.2 ++ q, p ++ b.2)

structure CrossI (w wr : World) (B sb qb M : Nat) (rv : Value) (R E : List Hw.Rl) (a b : Hw.Rl) (k : Nat) (E' : List Hw.Rl) : Prop where
  below : Below B w wr
  sf : SF sb qb none w wr
  ss : SS wr B sb qb M rv R E'
  len : E'.length + 1 ≤ E.length + k
  more : ∀ e, e ∈ E → e ∈ E'
  only : ∀ e, e ∈ E' → e ∈ E ∨ Lap M a b k e
  all : ∀ e, Lap M a b k e → e ∈ E'
  bx1 : wr.heap[w.heap.size]? = some (.cells #[.string ⟨a.1.toArray⟩, .string ⟨a.2.toArray⟩] 77 (0, 0))
  bx2 : wr.heap[w.heap.size + 1]? = some (.cells #[.string ⟨b.1.toArray⟩, .string ⟨b.2.toArray⟩] 77 (0, 0))

theorem ext_take (S : Hw.Wd) (n : Nat) : (⟨S.toArray⟩ : ByteArray).extract 0 n = ⟨(S.take n).toArray⟩ := by
  apply ByteArray.ext; apply Array.ext'; rw [toList_extract]; simp
theorem ext_drop (S : Hw.Wd) (k : Nat) : (⟨S.toArray⟩ : ByteArray).extract k S.length = ⟨(S.drop k).toArray⟩ := by
  apply ByteArray.ext; apply Array.ext'; rw [toList_extract]; simp
theorem quiet_same2 {P : Program} {f : FuncId} {args : Array Value} {w : World} {n1 x : Nat} {v : Value}
    (h : Calls P f args (w.drewN (n1 + x)) fun e w' => e = .returned v ∧ w' = w.drewN (n1 + x)) : Calls P f args (w.drewN (n1 + x)) fun e w'' => e = .returned v ∧ ∃ m, w'' = w.drewN (n1 + m) :=
  h.mono fun _ _ ⟨he, hm⟩ => ⟨he, x, hm⟩

theorem CrossI.move {w wr w1 : World} {B sb qb M : Nat} {rv : Value} {R E E' : List Hw.Rl} {a b : Hw.Rl} {k k' : Nat} (h : CrossI w wr B sb qb M rv R E a b k E') (h1 : SameW wr w1) (hk : k ≤ k') (hl : ∀ e, Lap M a b k' e → Lap M a b k e) : CrossI w w1 B sb qb M rv R E a b k' E' :=
  ⟨h.below.trans ⟨h1.2.1, h1.2.2.1, h1.2.2.2, by rw [h1.1]; exact Nat.le_refl _, fun k _ => by rw [h1.1]⟩, h.sf.trans (SF.of_same h1), h.ss.same h1, by have := h.len; omega, h.more,
    fun e he => (h.only e he).imp id (fun ⟨p, o, q, h1, h2, h3, h4, h5, h6, h7, h8⟩ => ⟨p, o, q, h1, h2, h3, h4, h5, h6, by omega, h8⟩), fun e he => h.all e (hl e he), by rw [h1.1]; exact h.bx1, by rw [h1.1]; exact h.bx2⟩

theorem lap_at {M k : Nat} {a b : Hw.Rl} {p o q : Hw.Wd} (e1 : a.1 = p ++ o) (e2 : b.1 = o ++ q) (ho : o.length = k) (hl : (p ++ o ++ q).length ≤ M) : o = b.1.take k ∧ q = b.1.drop k ∧ p = a.1.take (a.1.length - k) ∧ a.1.length + q.length ≤ M ∧ Lib.hasSuffix a.1 (b.1.take k) = true := by
  subst ho
  have h1 : b.1.take o.length = o := by rw [e2, List.take_left]
  have h2 : b.1.drop o.length = q := by rw [e2, List.drop_left]
  refine ⟨h1.symm, h2.symm, ?_, ?_, ?_⟩
  · rw [e1]; simp
  · rw [e1]; simp at hl ⊢; omega
  · rw [h1, e1]
    unfold Lib.hasSuffix
    exact List.isSuffixOf_iff_suffix.2 (List.suffix_append p o)

theorem cross_no {w wr w1 : World} {B sb qb M : Nat} {rv : Value} {R E E' : List Hw.Rl} {a b : Hw.Rl} {k : Nat} {Q : Hw.Wd} (h : CrossI w wr B sb qb M rv R E a b k E') (h1 : SameW wr w1) (hQ : b.1.drop k = Q)
    (hno : M < a.1.length + Q.length ∨ Lib.hasSuffix a.1 (b.1.take k) = false) : CrossI w w1 B sb qb M rv R E a b (k + 1) E' := by
  refine h.move h1 (by omega) ?_
  rintro e ⟨p, o, q, e1, e2, h3, h4, h5, h6, h7, h8⟩
  by_cases hk : o.length = k
  · obtain ⟨g1, g2, _, g3, g4⟩ := lap_at e1 e2 hk h6
    rcases hno with hno | hno
    · rw [g2, hQ] at g3; omega
    · rw [hno] at g4; cases g4
  · exact ⟨p, o, q, e1, e2, h3, h4, h5, h6, by omega, h8⟩

theorem cross_yes {w wr w2 w3 : World} {B sb qb M D : Nat} {rv : Value} {R E E' E3 : List Hw.Rl} {a b : Hw.Rl} {k : Nat} {P Q : Hw.Wd} (h : CrossI w wr B sb qb M rv R E a b k E') (h2 : SameW wr w2) (hb : Below B w2 w3) (hsf : SF sb qb none w2 w3)
    (hl : E3.length = E'.length + 1) (hm : ∀ e, e ∈ E3 ↔ e ∈ E' ∨ e = (a.2 ++ Q, P ++ b.2)) (hS : SS w3 B sb qb M rv R E3) (hk1 : k < a.1.length) (hk2 : k < b.1.length) (hk0 : 1 ≤ k) (hD : a.1.length - k = D) (hP : a.1.take D = P) (hQ : b.1.drop k = Q)
    (hroom : a.1.length + Q.length ≤ M) (hsuf : Lib.hasSuffix a.1 (b.1.take k) = true) : CrossI w w3 B sb qb M rv R E a b (k + 1) E3 := by
  have hm2 := h.move h2 (Nat.le_refl k) (fun e h => h)
  obtain ⟨ag, iv, items, s1, s2, _⟩ := h.ss.st
  have nsb : ∀ n c, wr.heap[n]? = some (.cells c 77 (0, 0)) → n ≠ sb := by rintro n c e rfl; rw [s1] at e; simp [sblock] at e
  have nqb : ∀ n c, wr.heap[n]? = some (.cells c 77 (0, 0)) → n ≠ qb := by rintro n c e rfl; rw [s2.blk] at e; simp at e
  have hlap : Lap M a b (k + 1) (a.2 ++ Q, P ++ b.2) := by
    unfold Lib.hasSuffix at hsuf
    obtain ⟨t, ht⟩ := List.isSuffixOf_iff_suffix.1 hsuf
    have htk : (b.1.take k).length = k := by rw [List.length_take]; omega
    have hlen : t.length + k = a.1.length := by
      have := congrArg List.length ht
      rw [List.length_append, htk] at this
      exact this
    have hPl : P.length = D := by rw [← hP, List.length_take]; omega
    have hQl : Q.length = b.1.length - k := by rw [← hQ, List.length_drop]
    have htP : P = t := by
      rw [← hP, ← ht]
      have : D = t.length := by omega
      rw [this, List.take_left]
    refine ⟨P, b.1.take k, Q, by rw [htP]; exact ht.symm, by rw [← hQ, List.take_append_drop], ?_, ?_, ?_, ?_, by omega, rfl⟩
    · intro e; rw [e, List.length_nil] at hPl; omega
    · intro e; rw [e, List.length_nil] at htk; omega
    · intro e; rw [e, List.length_nil] at hQl; omega
    · simp only [List.length_append]; omega
  refine ⟨hm2.below.trans hb, hm2.sf.trans hsf, hS, by have := h.len; omega, fun e he => (hm e).2 (Or.inl (h.more e he)), ?_, ?_, ?_, ?_⟩
  · intro e he
    rcases (hm e).1 he with he | rfl
    · exact (h.only e he).imp id (fun ⟨p, o, q, h1, h2, h3, h4, h5, h6, h7, h8⟩ => ⟨p, o, q, h1, h2, h3, h4, h5, h6, by omega, h8⟩)
    · exact Or.inr hlap
  · rintro e ⟨p, o, q, e1, e2, h3, h4, h5, h6, h7, h8⟩
    by_cases hk : o.length = k
    · obtain ⟨g1, g2, g3, _⟩ := lap_at e1 e2 hk h6
      refine (hm e).2 (Or.inr ?_)
      rw [h8, g2, hQ, g3, hD, hP]
    · exact (hm e).2 (Or.inl (h.all e ⟨p, o, q, e1, e2, h3, h4, h5, h6, by omega, h8⟩))
  · exact hsf.blk _ _ (by rw [h2.1]; exact h.bx1) (nsb _ _ h.bx1) (nqb _ _ h.bx1) (by simp) (by intro c fr e; simp at e)
  · exact hsf.blk _ _ (by rw [h2.1]; exact h.bx2) (nsb _ _ h.bx2) (nqb _ _ h.bx2) (by simp) (by intro c fr e; simp at e)

theorem cross_end {w wr : World} {B sb qb M : Nat} {rv : Value} {R E E' : List Hw.Rl} {a b : Hw.Rl} {k : Nat} (h : CrossI w wr B sb qb M rv R E a b k E') (hk : k ≤ 6) (hge : ¬ (k < a.1.length ∧ k < b.1.length)) : CrossI w wr B sb qb M rv R E a b 7 E' := by
  refine h.move ⟨rfl, rfl, rfl, rfl⟩ (by omega) ?_
  rintro e ⟨p, o, q, e1, e2, h3, h4, h5, h6, h7, h8⟩
  refine ⟨p, o, q, e1, e2, h3, h4, h5, h6, ?_, h8⟩
  have l1 := congrArg List.length e1
  have l2 := congrArg List.length e2
  have p1 := List.length_pos_iff.2 h3
  have p2 := List.length_pos_iff.2 h5
  simp at l1 l2
  omega

theorem cross_start {w : World} {B sb qb M : Nat} {rv : Value} {R E : List Hw.Rl} {a b : Hw.Rl} (hS : SS w B sb qb M rv R E) :
    CrossI w ((w.alloc (.cells #[.string ⟨a.1.toArray⟩, .string ⟨a.2.toArray⟩] 77)).alloc (.cells #[.string ⟨b.1.toArray⟩, .string ⟨b.2.toArray⟩] 77)) B sb qb M rv R E a b 1 E := by
  have hbl : Below w.heap.size w ((w.alloc (.cells #[.string ⟨a.1.toArray⟩, .string ⟨a.2.toArray⟩] 77)).alloc (.cells #[.string ⟨b.1.toArray⟩, .string ⟨b.2.toArray⟩] 77)) :=
    ((Below.refl _ _).alloc (Nat.le_refl _) _).alloc (by simp) _
  refine ⟨hbl.mono hS.size, SF.of_below hbl hS.qlt, hS.below hbl, by omega, fun e h => h, fun e h => Or.inl h, ?_, heap_alloc2_old _ _ _, heap_alloc2_new _ _ _⟩
  rintro e ⟨p, o, q, _, _, _, ho, _, _, hl, _⟩
  exact absurd (List.length_eq_zero_iff.1 (by omega)) ho

set_option maxRecDepth 100000 in
set_option maxHeartbeats 3200000 in
theorem cross_any (w : World) (B sb qb M : Nat) (rv : Value) (R E : List Hw.Rl) (a b : Hw.Rl) (ha1 : a.1.length ≤ 6) (ha2 : a.2.length ≤ a.1.length) (hb1 : b.1.length ≤ 6) (hb2 : b.2.length ≤ b.1.length) (hM : M ≤ 6) (hn : E.length < 900000000) (hS : SS w B sb qb M rv R E) :
    Calls Tryz.prog 118 #[.pointer (some ⟨sb, 0, none⟩), .agg #[.string ⟨a.1.toArray⟩, .string ⟨a.2.toArray⟩], .agg #[.string ⟨b.1.toArray⟩, .string ⟨b.2.toArray⟩]] w fun e w' => e = .returned (.tuple #[]) ∧ ∃ E', CrossI w w' B sb qb M rv R E a b 7 E' := by
  have hbs := hS.size
  have HS := hide hS
  clear hS
  go_enter Tryz.func118, Tryz.ntmps118
  go_wp2
  go_loopw [6] (fun t wr => ∃ (k : Nat) (E' : List Hw.Rl), 1 ≤ k ∧ k ≤ 6 ∧ t = .int .i64 (k : Int) ∧ CrossI w wr B sb qb M rv R E a b k E') (fun t _ => 7 - (intOf t).toNat)
  case atStart => exact ⟨1, E, by omega, by omega, rfl, cross_start HS.out⟩
  case round =>
    obtain ⟨k, E', hk1, hk6, rfl, hI⟩ := hrel
    have a1c := cellAt hI.bx1 (j := 0) (v := .string ⟨a.1.toArray⟩) rfl
    have a2c := cellAt hI.bx1 (j := 1) (v := .string ⟨a.2.toArray⟩) rfl
    have b1c := cellAt hI.bx2 (j := 0) (v := .string ⟨b.1.toArray⟩) rfl
    have b2c := cellAt hI.bx2 (j := 1) (v := .string ⟨b.2.toArray⟩) rfl
    have mc : wr.cell? ⟨sb, 0, none⟩ = some (.int .i64 M) := by
      obtain ⟨ag, iv, items, h1, _⟩ := hI.ss.st
      exact cellAt h1 rfl
    have HI := hide hI
    clear hI
    by_cases hlt : k < a.1.length ∧ k < b.1.length
    · obtain ⟨hlt1, hlt2⟩ := hlt
      have hmin : min (a.1.length : Int) (b.1.length : Int) = ((min a.1.length b.1.length : Nat) : Int) := by omega
      have hdk : decide (k < min a.1.length b.1.length) = true := by simp; omega
      have hwr : IntKind.i64.wrap ((a.1.length : Int) - (k : Int)) = ((a.1.length - k : Nat) : Int) := by rw [IntKind.wrap_i64]; omega
      have hD : a.1.length - k ≤ a.1.length ∧ a.1.length - k ≤ 5 := by omega
      generalize hDD : a.1.length - k = D at *
      have HDD := hide hDD
      have i2 : (D : Int) ≤ (a.1.length : Int) := by omega
      have i3 : (k : Int) ≤ (b.1.length : Int) := by omega
      clear hDD
      have HMin := hide hmin
      go_wp2_with fail
      go_quiet (fail)
      clear hwr
      rw [ext_take, ext_drop]
      have hPl : (a.1.take D).length = D := by simp; omega
      have hQl : (b.1.drop k).length = b.1.length - k := by simp
      generalize hP : a.1.take D = P at *
      generalize hQ : b.1.drop k = Q at *
      have HP := hide hP
      have HQ := hide hQ
      have hwr2 : IntKind.i64.wrap ((a.1.length : Int) + (Q.length : Int)) = (a.1.length : Int) + (Q.length : Int) := by rw [IntKind.wrap_i64]; omega
      have hQ6 : Q.length ≤ 6 := by omega
      have hP6 : P.length ≤ 6 := by omega
      have HPL := hide hPl
      have HQL := hide hQl
      clear hP hQ hPl hQl
      by_cases hroom : a.1.length + Q.length ≤ M
      · have hguard : decide ((a.1.length : Int) + (Q.length : Int) ≤ (M : Int)) = true := by simp; omega
        cases hsuf : Lib.hasSuffix a.1 (b.1.take k) with
        | true =>
          have hadd1 : ¬ (9223372036854775807 < a.2.length + Q.length) := by omega
          have hadd2 : ¬ (9223372036854775807 < P.length + b.2.length) := by omega
          go_wp2_with fail
          go_quiet ((go_at_call 68; refine quiet_same2 (Tryz.strings_HasSuffix _ _ _ (by simp [ByteArray.size]; omega))))
          go_wp2_with fail
          rw [ByteArray.mk_append_mk, ByteArray.mk_append_mk]
          refine (wait_any _ B sb qb M rv R E' (a.2 ++ Q) (P ++ b.2) (by simp; omega) (by have := HPL.out; have := HDD.out; have := HQL.out; simp; omega) (by have := HI.out.len; omega) (by exact HI.out.ss.same ⟨rfl, rfl, rfl, rfl⟩)).mono ?_
          rintro e w3 ⟨rfl, ⟨hb3, hsf3⟩, E3, hl3, hm3, hS3⟩
          have R := cross_yes HI.out (by exact ⟨rfl, rfl, rfl, rfl⟩) hb3 hsf3 hl3 hm3 hS3 hlt1 hlt2 hk1 HDD.out HP.out HQ.out hroom hsuf
          have HR := hide R
          clear R hb3 hsf3 hl3 hm3 hS3
          go_wp2
          go_roundw
          case rel => exact ⟨k + 1, E3, by omega, by omega, by go_num, HR.out⟩
          case measure => simp [intOf]; omega
        | false =>
          go_wp2_with fail
          go_quiet ((go_at_call 68; refine quiet_same2 (Tryz.strings_HasSuffix _ _ _ (by simp [ByteArray.size]; omega))))
          go_wp2
          go_roundw
          case rel => exact ⟨k + 1, E', by omega, by omega, by go_num, cross_no HI.out (by exact ⟨rfl, rfl, rfl, rfl⟩) HQ.out (Or.inr hsuf)⟩
          case measure => simp [intOf]; omega
      · have hguard : decide ((a.1.length : Int) + (Q.length : Int) ≤ (M : Int)) = false := by simp; omega
        go_wp2_with fail
        go_quiet (fail)
        go_wp2
        go_roundw
        case rel => exact ⟨k + 1, E', by omega, by omega, by go_num, cross_no HI.out (by exact ⟨rfl, rfl, rfl, rfl⟩) HQ.out (Or.inl (by omega))⟩
        case measure => simp [intOf]; omega
    · have hdk : ¬ (k < min a.1.length b.1.length) := by omega
      have hmin : min (a.1.length : Int) (b.1.length : Int) = ((min a.1.length b.1.length : Nat) : Int) := by omega
      go_wp2
      go_end0
      exact ⟨rfl, E', cross_end HI.out hk6 (by omega)⟩
end Go.Proofs.YtfiebibpgbadlaaGreat
