import Derived.Test.YtbpfcnhihchemaaProgM
namespace Go.Proofs.Ytbpfcnhihchemaa
open Go.RowKit
set_option linter.unusedVariables false
set_option linter.unusedSimpArgs false

def rbox (r : Hw.Rl) : Obj := .cells #[.string ⟨r.1.toArray⟩, .string ⟨r.2.toArray⟩] 78 (0, 0)

theorem mem_kept (X : Hw.Wd) (R : List Hw.Rl) (a : Hw.Rl) : a ∈ keptL X R R.length ↔ a ∈ R ∧ ¬ Hw.Occ X a.1 := by
  unfold keptL
  rw [List.take_of_length_le (Nat.le_refl _), List.mem_filter]
  unfold keepB
  constructor
  · rintro ⟨h1, h2⟩
    refine ⟨h1, fun ho => ?_⟩
    rw [(Hw.contains_iff a.1 X).2 ho] at h2; cases h2
  · rintro ⟨h1, h2⟩
    refine ⟨h1, ?_⟩
    cases hb : Lib.contains a.1 X with
    | false => rfl
    | true => exact absurd ((Hw.contains_iff a.1 X).1 hb) h2

theorem apart_kept (X : Hw.Wd) {R : List Hw.Rl} (h : Hw.Apart R) : Hw.Apart (keptL X R R.length) := by
  unfold keptL
  rw [List.take_of_length_le (Nat.le_refl _)]
  exact List.Pairwise.filter _ h

/-- behind the new rule's append. -/
structure AddA (w wr : World) (B sb qb M H : Nat) (rv : Value) (R E : List Hw.Rl) (r : Hw.Rl) : Prop where
  below : Below B w wr
  ss : SS wr B sb qb M rv R E
  box : wr.heap[H]? = some (rbox r)
  own : ∀ k, rv.ownBlock = some k → k ≠ H
  pk : PK qb w wr

theorem add_append {w w2 w0 w3 : World} {B sb qb M H cap : Nat} {sa : Option Addr} {R E : List Hw.Rl} {r : Hw.Rl} {v' : Value} {o : Obj} (hb : Below B w w2) (hpk : PK qb w w2) (hS : SS w2 B sb qb M (.slice sa R.length cap) R E) (hbox : w2.heap[H]? = some (rbox r)) (hH : ∀ k, (Value.slice sa R.length cap).ownBlock = some k → k ≠ H)
    (h0 : SameW (w2.alloc o) w0) (hown : w3.ownsRow B 78 2 v' (R.length + 1) (rcells R ++ [.string ⟨r.1.toArray⟩, .string ⟨r.2.toArray⟩])) (hgrow : w0.grownBy w3 (Value.slice sa R.length cap).ownBlock)
    (hex : ∀ k, v'.ownBlock = some k → (Value.slice sa R.length cap).ownBlock = some k ∨ w0.heap.size ≤ k) :
    (∃ ag, w3.heap[sb]? = some (sblock M (.slice sa R.length cap) qb ag)) ∧ AddA w (w3.setCell ⟨sb, 1, none⟩ v') B sb qb M H v' (R ++ [r]) E r := by
  obtain ⟨ag, iv, items, s1, s2, s3⟩ := hS.st
  obtain ⟨m, hm⟩ := hS.mx
  have hsq := sblock_ne s1 s2
  have hw0 : w0.heap.size = w2.heap.size + 1 := by rw [h0.1]; simp
  have hOwn : ∀ k, (Value.slice sa R.length cap).ownBlock = some k → ∃ c, w2.heap[k]? = some (.cells c 78 (0, 0)) ∧ B ≤ k := by
    intro k hk
    rcases hS.rul.2 with ⟨h1, _⟩ | ⟨g, cap2, cur, h1, hb2, hg, _⟩
    · rw [h1] at hk; simp [Value.ownBlock] at hk
    · rw [h1] at hk; simp [Value.ownBlock] at hk; subst hk; exact ⟨cur, hg, hb2⟩
  have hK : Kept (Value.slice sa R.length cap).ownBlock.toList w2 w3 := (((Kept.refl _ w2).alloc _).trans (h0.kept _)).trans (Kept.of_grown hgrow (fun k hk => by simp [hk]))
  have nsb : (Value.slice sa R.length cap).ownBlock ≠ some sb := fun e => by obtain ⟨c, hc, _⟩ := hOwn _ e; rw [s1] at hc; simp [sblock] at hc
  have nqb : (Value.slice sa R.length cap).ownBlock ≠ some qb := fun e => by obtain ⟨c, hc, _⟩ := hOwn _ e; rw [s2.blk] at hc; simp at hc
  have t1 := hK.at s1 (by simpa using nsb)
  have hK2 : Kept [sb] w3 (w3.setCell ⟨sb, 1, none⟩ v') := (Kept.refl _ _).setCell (Or.inl (by simp)) _
  have hlb : Below B w2 w3 := hK.below hS.size (fun k hk => by simp at hk; obtain ⟨c, _, h⟩ := hOwn k hk; exact h)
  have hlb2 : Below B w3 (w3.setCell ⟨sb, 1, none⟩ v') := hK2.below (by have := hS.size; have := hlb.size; omega) (by simp; exact hS.lo1)
  have hcell : (w3.setCell ⟨sb, 1, none⟩ v').cell? ⟨0, 0, none⟩ = some (.int .i64 m) := ((hlb.trans hlb2).cell (p := ⟨0, 0, none⟩) hS.pos).trans hm
  have hv3 : ∀ k, v'.ownBlock = some k → k ≠ sb := by
    rintro k hk rfl
    rcases hown.2 with ⟨h1, _⟩ | ⟨g, cap2, cur, h1, _, hg, _⟩
    · rw [h1] at hk; simp [Value.ownBlock] at hk
    · rw [h1] at hk; simp [Value.ownBlock] at hk; subst hk; rw [t1] at hg; simp [sblock] at hg
  refine ⟨⟨ag, t1⟩, (hb.trans hlb).trans hlb2, ⟨hS.lo1, hS.lo2, hS.pos, ⟨m, hcell⟩, ?_, ag, iv, items, ?_, ?_, s3⟩, ?_, ?_, ?_⟩
  · have e : rcells (R ++ [r]) = rcells R ++ [.string ⟨r.1.toArray⟩, .string ⟨r.2.toArray⟩] := by simp [rcells]
    have hR3 : RulesAt w3 B v' (R ++ [r]) := by
      unfold RulesAt
      rw [e, show (R ++ [r]).length = R.length + 1 by simp]
      exact hown
    exact hR3.kept hK2 (fun k hk e => by simp at hk; subst hk; exact hv3 _ e rfl)
  · rw [heap_setCell_same _ _ 1 _ _ _ t1]; rfl
  · refine ⟨hK2.at (hK.at s2.blk (by simpa using nqb)) (by simp; omega), s2.own.1, ?_⟩
    rcases s2.own.2 with h1 | ⟨g3, cap3, cur3, h1, h2, hg3, r3⟩
    · exact .inl h1
    · have n1 : (Value.slice sa R.length cap).ownBlock ≠ some g3 := fun e => by obtain ⟨c, hc, _⟩ := hOwn _ e; rw [hg3] at hc; simp at hc
      have n2 : g3 ≠ sb := by rintro rfl; rw [s1] at hg3; simp [sblock] at hg3
      exact .inr ⟨g3, cap3, cur3, h1, h2, hK2.at (hK.at hg3 (by simpa using n1)) (by simpa using n2), r3⟩
  · have n1 : (Value.slice sa R.length cap).ownBlock ≠ some H := fun e => hH _ e rfl
    have n2 : H ≠ sb := by rintro rfl; rw [s1] at hbox; simp [sblock, rbox] at hbox
    exact hK2.at (hK.at hbox (by simpa using n1)) (by simpa using n2)
  · rintro k hk rfl
    have hl := lt_of_block hbox
    rcases hex _ hk with h | h
    · exact hH _ h rfl
    · omega
  · refine (hpk.trans (PK.of_kept hK hS.qlt (by simpa using nqb) ?_)).trans (PK.of_kept hK2 (Nat.lt_of_lt_of_le hS.qlt hK.size) (by simp; omega) ?_)
    · intro k hk c fr e
      obtain ⟨c2, hc2, _⟩ := hOwn k (by simpa using hk)
      rw [hc2] at e; simp at e
    · simp only [List.mem_singleton]
      rintro k rfl c fr e
      rw [t1] at e; simp [sblock] at e

/-- while the less words are made less. -/
structure RedI (w wr : World) (B sb qb L M H : Nat) (rv : Value) (said R0 R E : List Hw.Rl) (r : Hw.Rl) : Prop where
  a : AddA w wr B sb qb M H rv R E r
  inv : Hw.Inv L M said R E (fun x => x = r.1)
  fst : R.map Prod.fst = R0.map Prod.fst
  same : ∀ a, a ∈ R → a.1 = r.1 → a.2 = r.2

theorem red_step {w wr w2 : World} {B sb qb L M H g n cap i : Nat} {said R0 R E : List Hw.Rl} {r : Hw.Rl} (hL1 : 1 ≤ L) (hL3 : L ≤ 3) (h : RedI w wr B sb qb L M H (.slice (some ⟨g, 0, none⟩) n cap) said R0 R E r) (hirr : Hw.Irr R0 r.2) (hi : i < R.length) {t' : Hw.Wd} (hnf : Hw.NF R (R[i]).2 t')
    (hb : Below wr.heap.size wr w2) : RedI w (w2.setCell ⟨g, i * 2 + 1, none⟩ (.string ⟨t'.toArray⟩)) B sb qb L M H (.slice (some ⟨g, 0, none⟩) n cap) said R0 (R.set i ((R[i]).1, t')) E r := by
  have hS := h.a.ss.below hb
  obtain ⟨g', cap', cur, hrv, hgB, hgg, _⟩ := hS.rul.read (i := i) hi
  simp only [Value.slice.injEq, Option.some.injEq, Addr.mk.injEq] at hrv
  obtain ⟨⟨rfl, -, -⟩, -, rfl⟩ := hrv
  have hK : Kept [g] w2 (w2.setCell ⟨g, i * 2 + 1, none⟩ (.string ⟨t'.toArray⟩)) := (Kept.refl _ _).setCell (Or.inl (by simp)) _
  obtain ⟨ag, iv, items, s1, s2, s3⟩ := hS.st
  obtain ⟨m, hm⟩ := hS.mx
  have n1 : sb ≠ g := by rintro rfl; rw [s1] at hgg; simp [sblock] at hgg
  have n2 : qb ≠ g := by rintro rfl; rw [s2.blk] at hgg; simp at hgg
  have hgH : g ≠ H := h.a.own g rfl
  have hbox2 := (hb.block H (lt_of_block h.a.box)).trans h.a.box
  have hspl : R = R.take i ++ R[i] :: R.drop (i + 1) := by rw [← List.drop_eq_getElem_cons hi, List.take_append_drop]
  have hset : R.set i ((R[i]).1, t') = R.take i ++ ((R[i]).1, t') :: R.drop (i + 1) := by rw [List.set_eq_take_append_cons_drop, if_pos hi]
  refine ⟨⟨(h.a.below.trans (hb.mono h.a.ss.size)).trans (hK.below hS.size (by simp; omega)), ⟨hS.lo1, hS.lo2, hS.pos, ⟨m, hK.cell hm (by simp; have := hS.pos; omega)⟩, hS.rul.setTo hi t', ag, iv, items, hK.at s1 (by simpa using n1), ⟨hK.at s2.blk (by simpa using n2), s2.own.1, ?_⟩, s3⟩, hK.at hbox2 (by simp; omega), h.a.own, (h.a.pk.trans (PK.of_below hb h.a.ss.qlt)).trans (PK.of_kept hK hS.qlt (by simpa using n2) (by simp only [List.mem_singleton]; rintro k rfl c fr e; rw [hgg] at e; simp at e))⟩, ?_, ?_, ?_⟩
  · rcases s2.own.2 with h1 | ⟨g3, cap3, cur3, h1, h2, hg3, r3⟩
    · exact .inl h1
    · refine .inr ⟨g3, cap3, cur3, h1, h2, hK.at hg3 ?_, r3⟩
      simp; rintro rfl; rw [hgg] at hg3; simp at hg3
  · have hinv := h.inv
    rw [hspl] at hinv
    have hst : Hw.Steps (R.take i ++ R[i] :: R.drop (i + 1)) (R[i]).2 t' := by rw [← hspl]; exact hnf.1
    rw [hset]
    exact Hw.Inv.reduce hL1 hL3 (f := (R[i]).1) (t := (R[i]).2) hinv hst
  · rw [hset, List.map_append, List.map_cons, ← h.fst]
    conv => rhs; rw [hspl, List.map_append, List.map_cons]
  · intro a ha hx
    rw [hset] at ha
    rcases List.mem_append.1 ha with ha | ha
    · exact h.same a (List.mem_of_mem_take ha) hx
    · rcases List.mem_cons.1 ha with rfl | ha
      · have h1 := h.same R[i] (List.getElem_mem hi) hx
        have hir : Hw.Irr R (R[i]).2 := by rw [h1]; exact Hw.irr_fst h.fst hirr
        show t' = r.2
        rw [← hnf.1.of_irr hir, h1]
      · exact h.same a (List.mem_of_mem_drop ha) hx
end Go.Proofs.Ytbpfcnhihchemaa
