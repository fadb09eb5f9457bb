import Derived.Test.YtfiebibpgbadlaaGreatProgJ
import Derived.Test.YtfiebibpgbadlaaGreatKb
namespace Go.Proofs.YtfiebibpgbadlaaGreat
open Go.RowKit
set_option linter.unusedVariables false
set_option linter.unusedSimpArgs false

theorem wpList_append_room {P : Program} (w : World) {ops : Array Oper} {rest : List Oper} {o : Oper} {a : Act} {Q : Exit → Act → World → Prop}
    (hg : o.guard = none) (s x : Operand) (t : TypeId) (hop : o.op = Op.call { callee := Callee.builtin Builtin.append, args := #[s, x], argTypes := #[t, t] })
    (e : TypeId) (i : TypeInfo) (size : Nat) (h1 : P.underlying t = some (.slice e)) (h2 : P.info? e = some i) (h4 : i.size = size)
    (g k cap : Nat) (hs : a.eval s = .slice (some ⟨g, 0, none⟩) k cap) (ad : Addr) (m c : Nat) (news : List Value) (hx : a.eval x = .slice (some ad) m c) (hn : news.length = m * size)
    (hc : ∀ j u, news[j]? = some u → w.cell? (ad.add j) = some u) (h1c : ∀ u ∈ news, u.oneCell' = true) (b1 : k + m ≤ cap)
    (hsp : ∀ j, j < news.length → (w.cell? ⟨g, 0 + k * size + j, none⟩).isSome = true) (hf : ∀ j, j < news.length → w.frozen? ⟨g, 0 + k * size + j, none⟩ = false)
    (hK : wpList P ops Q rest (a.put o.dst (.slice (some ⟨g, 0, none⟩) (k + m) cap)) (w.setCells g (0 + k * size) news)) : wpList P ops Q (o :: rest) a w := by
  refine wpList_plain hg fun K hK' => ?_
  subst h4
  have hrun := run_append_room_cells (P := P) w t o.type e i h1 h2 g 0 k cap ad m c news hn hc h1c b1 hsp hf
  unfold Oper.wp
  simp [execOp, hop, resolve, invoke, builtin, hs, hx, hrun, Result.andThen]
  exact hK' _ _ (by simpa using hK)

theorem rcells_set (R : List Hw.Rl) (i : Nat) (p : Hw.Rl) (h : i < R.length) : ((rcells R).set (i * 2) (.string ⟨p.1.toArray⟩)).set (i * 2 + 1) (.string ⟨p.2.toArray⟩) = rcells (R.set i p) := by
  induction R generalizing i with
  | nil => simp at h
  | cons r R ih =>
    have e : ∀ r : Hw.Rl, ∀ R, rcells (r :: R) = Value.string ⟨r.1.toArray⟩ :: Value.string ⟨r.2.toArray⟩ :: rcells R := fun _ _ => rfl
    cases i with
    | zero => rw [List.set_cons_zero, e, e]; simp
    | succ i =>
      have := ih i (by simpa using h)
      rw [List.set_cons_succ, e, e, show (i + 1) * 2 = i * 2 + 2 by omega, ← this]
      simp

theorem Tryz.infoRule : (Tryz.prog.info? 77).map (fun i => (i.zero, i.size, i.bytes)) = some (some (.agg #[.string ⟨#[]⟩, .string ⟨#[]⟩]), 2, 32) := by kernel_rfl

/-- a rule is written into the row. -/
theorem RulesAt.set {w : World} {B g n cap : Nat} {R : List Hw.Rl} (h : RulesAt w B (.slice (some ⟨g, 0, none⟩) n cap) R) {j : Nat} (hj : j < R.length) (r : Hw.Rl) :
    RulesAt ((w.setCell ⟨g, j * 2, none⟩ (.string ⟨r.1.toArray⟩)).setCell ⟨g, j * 2 + 1, none⟩ (.string ⟨r.2.toArray⟩)) B (.slice (some ⟨g, 0, none⟩) n cap) (R.set j r) := by
  rcases h.2 with ⟨_, h2⟩ | ⟨g', cap', cur, h1, hb, hg, hn, hm, hsz, ht⟩
  · omega
  · simp only [Value.slice.injEq, Option.some.injEq, Addr.mk.injEq] at h1
    obtain ⟨⟨rfl, -, -⟩, e, rfl⟩ := h1
    have el : (R.set j r).length = R.length := by simp
    unfold RulesAt
    rw [el]
    refine ⟨by rw [length_rcells, el], .inr ⟨g, cap, _, by rw [e], hb, heap_setCell_same _ g _ _ _ _ (heap_setCell_same w g _ _ _ _ hg), hn, hm, by simpa using hsz, ?_⟩⟩
    simp only [Array.toList_setIfInBounds, List.take_set]
    rw [ht]
    exact rcells_set R j r hj

/-- cut back. -/
theorem RulesAt.cut {w : World} {B n cap : Nat} {sa : Option Addr} {R : List Hw.Rl} (h : RulesAt w B (.slice sa n cap) R) {j : Nat} (hj : j ≤ R.length) (hnone : sa = none → j = 0) : RulesAt w B (.slice sa j cap) (R.take j) := by
  have el : (R.take j).length = j := by simp; omega
  unfold RulesAt
  rw [el]
  rcases h.2 with ⟨h1, h2⟩ | ⟨g', cap', cur, h1, hb, hg, hn, hm, hsz, ht⟩
  · simp only [Value.slice.injEq] at h1
    obtain ⟨rfl, _, rfl⟩ := h1
    have := hnone rfl
    subst this
    exact ⟨by simp [rcells], .inl ⟨rfl, rfl⟩⟩
  · simp only [Value.slice.injEq] at h1
    obtain ⟨rfl, e, rfl⟩ := h1
    refine ⟨by rw [length_rcells, el], .inr ⟨g', cap, cur, rfl, hb, hg, by omega, hm, hsz, ?_⟩⟩
    have e2 : rcells (R.take j) = (rcells R).take (j * 2) := by
      have h : rcells R = rcells (R.take j) ++ rcells (R.drop j) := by
        unfold rcells
        rw [← List.flatMap_append, List.take_append_drop]
      rw [h, List.take_left' (by rw [length_rcells, el])]
    rw [e2, ← ht, List.take_take]
    congr 1
    omega

def keepB (X : Hw.Wd) (r : Hw.Rl) : Bool := !Lib.contains r.1 X
def keptL (X : Hw.Wd) (R : List Hw.Rl) (i : Nat) : List Hw.Rl := (R.take i).filter (keepB X)
def midL (X : Hw.Wd) (R : List Hw.Rl) (i : Nat) : List Hw.Rl := keptL X R i ++ R.drop (keptL X R i).length

theorem keptL_le (X : Hw.Wd) (R : List Hw.Rl) (i : Nat) : (keptL X R i).length ≤ i ∧ (keptL X R i).length ≤ R.length := by
  unfold keptL
  have h1 := List.length_filter_le (keepB X) (R.take i)
  rw [List.length_take] at h1
  omega
theorem keptL_succ (X : Hw.Wd) (R : List Hw.Rl) (i : Nat) (h : i < R.length) : keptL X R (i + 1) = if keepB X R[i] = true then keptL X R i ++ [R[i]] else keptL X R i := by
  unfold keptL
  rw [List.take_succ_eq_append_getElem h, List.filter_append]
  cases hb : keepB X R[i] <;> simp [hb]
theorem midL_len (X : Hw.Wd) (R : List Hw.Rl) (i : Nat) : (midL X R i).length = R.length := by
  unfold midL
  have := (keptL_le X R i).2
  simp; omega
theorem midL_at (X : Hw.Wd) (R : List Hw.Rl) (i : Nat) (h : i < R.length) (h' : i < (midL X R i).length) : (midL X R i)[i] = R[i] := by
  have hl := (keptL_le X R i).1
  have e : (midL X R i)[i]? = some R[i] := by
    unfold midL
    rw [List.getElem?_append_right hl, List.getElem?_drop, show (keptL X R i).length + (i - (keptL X R i).length) = i by omega]
    simp [h]
  rw [List.getElem?_eq_getElem h'] at e
  exact Option.some.inj e
theorem midL_zero (X : Hw.Wd) (R : List Hw.Rl) : midL X R 0 = R := by simp [midL, keptL]
theorem midL_keep (X : Hw.Wd) (R : List Hw.Rl) (i : Nat) (h : i < R.length) (hk : keepB X R[i] = true) : midL X R (i + 1) = (midL X R i).set (keptL X R i).length R[i] := by
  have hl := (keptL_le X R i).1
  unfold midL
  rw [keptL_succ X R i h, if_pos hk, List.set_append_right _ _ (Nat.le_refl _), Nat.sub_self, List.drop_eq_getElem_cons (i := (keptL X R i).length) (by omega), List.set_cons_zero]
  simp
theorem midL_skip (X : Hw.Wd) (R : List Hw.Rl) (i : Nat) (h : i < R.length) (hk : keepB X R[i] = false) : midL X R (i + 1) = midL X R i := by
  unfold midL
  rw [keptL_succ X R i h, if_neg (by simp [hk])]

structure DropI (w wr : World) (B sb qb M : Nat) (sa : Option Addr) (cap : Nat) (R E : List Hw.Rl) (X : Hw.Wd) (i : Nat) (E' : List Hw.Rl) : Prop where
  below : Below B w wr
  sf : SF sb qb (Value.slice sa R.length cap).ownBlock w wr
  ss : SS wr B sb qb M (.slice sa R.length cap) (midL X R i) E'
  len : E'.length + (keptL X R i).length = E.length + i
  mem : ∀ e, e ∈ E' ↔ e ∈ E ∨ (e ∈ R.take i ∧ Hw.Occ X e.1)

theorem rule_new (w : World) (o : Obj) (f t : Hw.Wd) (ty : TypeId) : ∀ j x, [Value.string ⟨f.toArray⟩, Value.string ⟨t.toArray⟩][j]? = some x → (((w.alloc o).alloc (.cells #[Value.string ⟨f.toArray⟩, Value.string ⟨t.toArray⟩] ty))).cell? ((⟨w.heap.size + 1, 0, none⟩ : Addr).add j) = some x := by
  intro j x hj
  have hadd : (⟨w.heap.size + 1, 0, none⟩ : Addr).add j = ⟨w.heap.size + 1, j, none⟩ := by unfold Addr.add; split <;> simp_all
  rw [hadd, cell_second]
  simpa using hj

theorem drop_cst {w wr : World} {B sb qb M g cap i : Nat} {R E E' : List Hw.Rl} {X : Hw.Wd} {r : Hw.Rl} (h : DropI w wr B sb qb M (some ⟨g, 0, none⟩) cap R E X i E') (hlt : i < R.length) (hr : R[i] = r) :
    ∀ o1 o2, (∀ j, j < 2 → ((((wr.alloc o1).alloc o2)).cell? ⟨g, 0 + (keptL X R i).length * 2 + j, none⟩).isSome = true) ∧ (∀ j, j < 2 → (((wr.alloc o1).alloc o2)).frozen? ⟨g, 0 + (keptL X R i).length * 2 + j, none⟩ = false) := by
  intro o1 o2
  have hk := keptL_le X R i
  obtain ⟨g', cap', cur, hrv, hgB, hgg, d0, d1⟩ := h.ss.rul.read (i := (keptL X R i).length) (by rw [midL_len]; omega)
  simp only [Value.slice.injEq, Option.some.injEq, Addr.mk.injEq] at hrv
  obtain ⟨⟨rfl, -, -⟩, -, rfl⟩ := hrv
  have hb : Below wr.heap.size wr ((wr.alloc o1).alloc o2) := ((Below.refl _ _).alloc (Nat.le_refl _) _).alloc (by simp) _
  have hg2 := (hb.block g (lt_of_block hgg)).trans hgg
  refine ⟨fun j hj => ?_, fun j _ => frozen_of_row _ g _ _ _ hg2⟩
  have e0 := (hb.cell (p := ⟨g, (keptL X R i).length * 2, none⟩) (lt_of_block hgg)).trans d0
  have e1 := (hb.cell (p := ⟨g, (keptL X R i).length * 2 + 1, none⟩) (lt_of_block hgg)).trans d1
  rcases (show j = 0 ∨ j = 1 by omega) with rfl | rfl
  · rw [show 0 + (keptL X R i).length * 2 + 0 = (keptL X R i).length * 2 by omega, e0]; rfl
  · rw [show 0 + (keptL X R i).length * 2 + 1 = (keptL X R i).length * 2 + 1 by omega, e1]; rfl

theorem drop_skip_len {R : List Hw.Rl} {X f t : Hw.Wd} {i : Nat} (hft : ∀ h : i < R.length, R[i] = (f, t)) (hlt : i < R.length) (hcon : Lib.contains f X = true) : (keptL X R i).length = (keptL X R (i + 1)).length := by
  rw [keptL_succ X R i hlt, if_neg (by rw [hft hlt]; simp [keepB, hcon])]

theorem take_mem_succ {R : List Hw.Rl} {i : Nat} (h : i < R.length) (e : Hw.Rl) : e ∈ R.take (i + 1) ↔ e ∈ R.take i ∨ e = R[i] := by
  rw [List.take_succ_eq_append_getElem h, List.mem_append, List.mem_singleton]

theorem drop_skip {w wr wa w3 : World} {B sb qb M cap i : Nat} {sa : Option Addr} {R E E' E3 : List Hw.Rl} {X f t : Hw.Wd} (h : DropI w wr B sb qb M sa cap R E X i E') (hlt : i < R.length) (hft : R[i] = (f, t)) (hcon : Lib.contains f X = true) (ha : Below wr.heap.size wr wa)
    (hb3 : Below B wa w3) (hsf3 : SF sb qb none wa w3) (hl3 : E3.length = E'.length + 1) (hm3 : ∀ e, e ∈ E3 ↔ e ∈ E' ∨ e = (f, t)) (hS3 : SS w3 B sb qb M (.slice sa R.length cap) (midL X R i) E3) : DropI w w3 B sb qb M sa cap R E X (i + 1) E3 := by
  have hk : keepB X R[i] = false := by rw [hft]; simp [keepB, hcon]
  have hlen : keptL X R (i + 1) = keptL X R i := by rw [keptL_succ X R i hlt, if_neg (by simp [hk])]
  refine ⟨(h.below.trans (ha.mono h.ss.size)).trans hb3, (h.sf.trans (SF.of_below ha h.ss.qlt)).trans hsf3.mono, by rw [midL_skip X R i hlt hk]; exact hS3, by rw [hlen, hl3]; have := h.len; omega, ?_⟩
  intro e
  rw [hm3, h.mem, take_mem_succ hlt, hft]
  have hocc := (Hw.contains_iff f X).1 hcon
  constructor
  · rintro ((h | ⟨h1, h2⟩) | rfl)
    · exact Or.inl h
    · exact Or.inr ⟨Or.inl h1, h2⟩
    · exact Or.inr ⟨Or.inr rfl, hocc⟩
  · rintro (h | ⟨h1 | rfl, h2⟩)
    · exact Or.inl (Or.inl h)
    · exact Or.inl (Or.inr ⟨h1, h2⟩)
    · exact Or.inr rfl

theorem drop_keep {w wr : World} {B sb qb M g cap i : Nat} {R E E' : List Hw.Rl} {X f t : Hw.Wd} (h : DropI w wr B sb qb M (some ⟨g, 0, none⟩) cap R E X i E') (hlt : i < R.length) (hft : R[i] = (f, t)) (hcon : Lib.contains f X = false) (o1 o2 : Obj) :
    DropI w ((((wr.alloc o1).alloc o2).setCell ⟨g, (keptL X R i).length * 2, none⟩ (.string ⟨f.toArray⟩)).setCell ⟨g, (keptL X R i).length * 2 + 1, none⟩ (.string ⟨t.toArray⟩)) B sb qb M (some ⟨g, 0, none⟩) cap R E X (i + 1) E' ∧ (keptL X R i).length + 1 = (keptL X R (i + 1)).length := by
  have hk : keepB X R[i] = true := by rw [hft]; simp [keepB, hcon]
  have hlen : keptL X R (i + 1) = keptL X R i ++ [R[i]] := by rw [keptL_succ X R i hlt, if_pos hk]
  have hkl := keptL_le X R i
  have hS := h.ss.below (((Below.refl wr.heap.size wr).alloc (Nat.le_refl _) o1).alloc (by simp) o2)
  have hba : Below wr.heap.size wr ((wr.alloc o1).alloc o2) := ((Below.refl wr.heap.size wr).alloc (Nat.le_refl _) o1).alloc (by simp) o2
  obtain ⟨g', cap', cur, hrv, hgB, hgg, _⟩ := hS.rul.read (i := i) (by rw [midL_len]; exact hlt)
  simp only [Value.slice.injEq, Option.some.injEq, Addr.mk.injEq] at hrv
  obtain ⟨⟨rfl, -, -⟩, -, rfl⟩ := hrv
  have hK : Kept [g] ((wr.alloc o1).alloc o2) ((((wr.alloc o1).alloc o2).setCell ⟨g, (keptL X R i).length * 2, none⟩ (.string ⟨f.toArray⟩)).setCell ⟨g, (keptL X R i).length * 2 + 1, none⟩ (.string ⟨t.toArray⟩)) :=
    ((Kept.refl _ _).setCell (Or.inl (by simp)) _).setCell (Or.inl (by simp)) _
  refine ⟨⟨?_, ?_, ?_, by rw [hlen]; have := h.len; simp; omega, ?_⟩, by rw [hlen]; simp⟩
  · exact (h.below.trans (hba.mono h.ss.size)).trans (hK.below hS.size (by simp; omega))
  · exact (h.sf.trans (SF.of_below hba h.ss.qlt)).trans (SF.of_kept hK (by simp [Value.ownBlock]) (PK.of_kept hK hS.qlt (by simp; rintro rfl; obtain ⟨ag, iv, items, s1, s2, s3⟩ := hS.st; rw [s2.blk] at hgg; simp at hgg) (by simp only [List.mem_singleton]; rintro k rfl c fr e; rw [hgg] at e; simp at e)))
  · rw [midL_keep X R i hlt hk, hft]
    have hR2 := hS.rul.set (j := (keptL X R i).length) (by rw [midL_len]; omega) (f, t)
    obtain ⟨ag, iv, items, s1, s2, s3⟩ := hS.st
    obtain ⟨m, hm⟩ := hS.mx
    have n1 : sb ≠ g := by rintro rfl; rw [s1] at hgg; simp [sblock] at hgg
    have n2 : qb ≠ g := by rintro rfl; rw [s2.blk] at hgg; simp at hgg
    refine ⟨hS.lo1, hS.lo2, hS.pos, ⟨m, ?_⟩, hR2, ag, iv, items, hK.at s1 (by simpa using n1), ⟨hK.at s2.blk (by simpa using n2), s2.own.1, ?_⟩, s3⟩
    · exact hK.cell hm (by simp; have := hS.pos; omega)
    · rcases s2.own.2 with h1 | ⟨g3, cap3, cur3, h1, h2, hg3, r3⟩
      · exact .inl h1
      · refine .inr ⟨g3, cap3, cur3, h1, h2, hK.at hg3 ?_, r3⟩
        simp; rintro rfl; rw [hgg] at hg3; simp at hg3
  · intro e
    rw [h.mem, take_mem_succ hlt, hft]
    have hno : ¬ Hw.Occ X f := fun ho => by have := (Hw.contains_iff f X).2 ho; rw [hcon] at this; cases this
    constructor
    · rintro (h | ⟨h1, h2⟩)
      · exact Or.inl h
      · exact Or.inr ⟨Or.inl h1, h2⟩
    · rintro (h | ⟨h1 | rfl, h2⟩)
      · exact Or.inl h
      · exact Or.inr ⟨h1, h2⟩
      · exact absurd h2 hno

theorem drop_end {w wr : World} {B sb qb M cap i : Nat} {sa : Option Addr} {R E E' : List Hw.Rl} {X : Hw.Wd} (h : DropI w wr B sb qb M sa cap R E X i E') (hi : i = R.length) :
    (Below B w (wr.setCell ⟨sb, 1, none⟩ (.slice sa (keptL X R i).length cap)) ∧ SF sb qb (Value.slice sa R.length cap).ownBlock w (wr.setCell ⟨sb, 1, none⟩ (.slice sa (keptL X R i).length cap))) ∧
      SS (wr.setCell ⟨sb, 1, none⟩ (.slice sa (keptL X R i).length cap)) B sb qb M (.slice sa (keptL X R R.length).length cap) (keptL X R R.length) E' ∧ E'.length + (keptL X R R.length).length = E.length + R.length ∧ (∀ e, e ∈ E' ↔ e ∈ E ∨ (e ∈ R ∧ Hw.Occ X e.1)) := by
  subst hi
  have hK : Kept [sb] wr (wr.setCell ⟨sb, 1, none⟩ (.slice sa (keptL X R R.length).length cap)) := (Kept.refl _ _).setCell (Or.inl (by simp)) _
  have hkl := keptL_le X R R.length
  obtain ⟨ag, iv, items, s1, s2, s3⟩ := h.ss.st
  obtain ⟨m, hm⟩ := h.ss.mx
  have hsq := sblock_ne s1 s2
  have e : (midL X R R.length).take (keptL X R R.length).length = keptL X R R.length := by unfold midL; rw [List.take_left]
  have hcut := h.ss.rul.cut (j := (keptL X R R.length).length) (by rw [midL_len]; omega) (by
    rintro rfl
    rcases h.ss.rul.2 with ⟨h1, h2⟩ | ⟨g', cap', cur, h1, _⟩
    · rw [midL_len] at h2; omega
    · simp at h1)
  rw [e] at hcut
  refine ⟨⟨h.below.trans (hK.below h.ss.size (by simp; exact h.ss.lo1)), h.sf.trans (SF.of_kept hK (by simp) (PK.of_kept hK h.ss.qlt (by simp; omega) (by simp only [List.mem_singleton]; rintro k rfl c fr e; rw [s1] at e; simp [sblock] at e)))⟩, ⟨h.ss.lo1, h.ss.lo2, h.ss.pos, ⟨m, hK.cell hm (by simp; have := h.ss.pos; have := h.ss.lo1; omega)⟩, hcut.kept hK ?_, ag, iv, items, ?_, ⟨hK.at s2.blk (by simp; omega), s2.own.1, ?_⟩, s3⟩, h.len, ?_⟩
  · intro k hk e
    simp at hk; subst hk
    rcases hcut.2 with ⟨h1, _⟩ | ⟨g, cap2, cur, h1, _, hg, _⟩
    · rw [h1] at e; simp [Value.ownBlock] at e
    · rw [h1] at e; simp [Value.ownBlock] at e; subst e; rw [s1] at hg; simp [sblock] at hg
  · rw [heap_setCell_same _ _ 1 _ _ _ s1]; rfl
  · rcases s2.own.2 with h1 | ⟨g3, cap3, cur3, h1, h2, hg3, r3⟩
    · exact .inl h1
    · refine .inr ⟨g3, cap3, cur3, h1, h2, hK.at hg3 ?_, r3⟩
      simp; rintro rfl; rw [s1] at hg3; simp [sblock] at hg3
  · intro e
    rw [h.mem, List.take_of_length_le (Nat.le_refl _)]

set_option maxRecDepth 100000 in
set_option maxHeartbeats 3200000 in
theorem drop_any (w : World) (B sb qb L M cap : Nat) (sa : Option Addr) (R E : List Hw.Rl) (X : Hw.Wd) (hM6 : M ≤ 6) (hR : Hw.RulesOk L M R) (hRl : R.length ≤ 65536) (hXl : X.length ≤ 6) (hn : E.length < 800000000) (hS : SS w B sb qb M (.slice sa R.length cap) R E) :
    Calls Tryz.prog 117 #[.pointer (some ⟨sb, 0, none⟩), .string ⟨X.toArray⟩] w fun e w' => e = .returned (.tuple #[]) ∧ ∃ E', (Below B w w' ∧ SF sb qb (Value.slice sa R.length cap).ownBlock w w') ∧
      SS w' B sb qb M (.slice sa (keptL X R R.length).length cap) (keptL X R R.length) E' ∧ E'.length + (keptL X R R.length).length = E.length + R.length ∧ (∀ e, e ∈ E' ↔ e ∈ E ∨ (e ∈ R ∧ Hw.Occ X e.1)) := by
  have c1 : w.cell? ⟨sb, 1, none⟩ = some (.slice sa R.length cap) := by
    obtain ⟨ag, iv, items, h1, _⟩ := hS.st
    exact cellAt h1 rfl
  have hcapR : R.length ≤ cap := by
    rcases hS.rul.2 with ⟨h1, h2⟩ | ⟨g', cap', cur, h1, hb, hg, hn, hm, hsz, ht⟩
    · omega
    · simp only [Value.slice.injEq] at h1; omega
  have H0 : Hid (DropI w w B sb qb M sa cap R E X 0 E) := ⟨Below.refl _ _, SF.refl _ _ _ _, by rw [midL_zero]; exact hS, by simp [keptL], by simp⟩
  have HR := hide hR
  clear hS hR
  go_enter Tryz.func117, Tryz.ntmps117
  go_wp2
  clear c1
  go_loopw [4, 17] (fun kv t wr => ∃ (i : Nat) (E' : List Hw.Rl), i ≤ R.length ∧ kv = .slice sa (keptL X R i).length cap ∧ t = .int .i64 (i : Int) ∧ DropI w wr B sb qb M sa cap R E X i E') (fun _ t _ => R.length - (intOf t).toNat)
  case atStart => exact ⟨0, E, Nat.zero_le _, rfl, rfl, H0.out⟩
  case round =>
    clear H0
    obtain ⟨i, E', hi, rfl, rfl, hI⟩ := hrel
    by_cases hlt : i < R.length
    · obtain ⟨g, cap', cur, hrv, hgB, hgg, d0, d1⟩ := hI.ss.rul.read (i := i) (by rw [midL_len]; exact hlt)
      simp only [Value.slice.injEq] at hrv
      obtain ⟨rfl, -, rfl⟩ := hrv
      rw [midL_at X R i hlt] at d0 d1
      obtain ⟨m, hm⟩ := hI.ss.mx
      obtain ⟨⟨f, t⟩, hft⟩ : ∃ p, R[i] = p := ⟨_, rfl⟩
      rw [hft] at d0 d1
      have HI := hide hI
      have HFT := hide hft
      have hgl : g < wr.heap.size := lt_of_block hgg
      have hmem : (f, t) ∈ R := by rw [← hft]; exact List.getElem_mem hlt
      have hfl : f.length ≤ 6 := by have := Hw.isWord_len (HR.out.from_ _ hmem); simp only at this; omega
      have htl : t.length ≤ 6 := by have := Hw.isWord_len (HR.out.to_ _ hmem); simp only at this; omega
      clear hI hft hgg hmem
      have hkl := keptL_le X R i
      have hcst := drop_cst HI.out hlt HFT.out
      go_wp2_with fail
      refine (Tryz.strings_Contains ⟨f.toArray⟩ ⟨X.toArray⟩ m _ (by simp [ByteArray.size]; omega) (by exact ((Kept.refl [] wr).alloc _).cell hm (by simp))).mono ?_
      rintro e w1 ⟨rfl, rfl⟩
      rw [show (⟨f.toArray⟩ : ByteArray).data.toList = f by simp, show (⟨X.toArray⟩ : ByteArray).data.toList = X by simp]
      cases hcon : Lib.contains f X with
      | true =>
        go_wp2_with fail
        refine (wait_any _ B sb qb M (.slice (some ⟨g, 0, none⟩) R.length cap) (midL X R i) E' f t hfl htl (by have := HI.out.len; omega) (by exact HI.out.ss.below ((Below.refl _ _).alloc (Nat.le_refl _) _))).mono ?_
        rintro e w3 ⟨rfl, ⟨hb3, hsf3⟩, E3, hl3, hm3, hS3⟩
        have R1 := hide (drop_skip HI.out hlt HFT.out hcon ((Below.refl wr.heap.size wr).alloc (Nat.le_refl _) _) hb3 hsf3 hl3 hm3 hS3)
        clear hb3 hsf3 hl3 hm3 hS3
        rw [drop_skip_len (fun _ => HFT.out) hlt hcon]
        go_wp2
        go_roundw
        case rel => exact ⟨i + 1, E3, by omega, rfl, by go_num, R1.out⟩
        case measure => simp [intOf]; omega
      | false =>
        obtain ⟨i0, hi0, hz0, hz1, hz2⟩ := info_parts Tryz.infoRule
        have HI0 := hide hi0
        have HZ1 := hide hz1
        clear hi0 hz0 hz1 hz2
        go_wp2_with (at_builtin; refine wpList_append_room _ rfl (.tmp 31) (.tmp 33) 68 rfl 77 i0 2 Tryz.underlying68 HI0.out HZ1.out g (keptL X R i).length cap rfl ⟨wr.heap.size + 1, 0, none⟩ 1 1 [.string ⟨f.toArray⟩, .string ⟨t.toArray⟩] rfl rfl ?c1 ?c2 ?c3 ?c4 ?c5 ?_)
        case c1 => exact rule_new wr _ f t _
        case c2 => intro u hu; simp at hu; rcases hu with rfl | rfl <;> rfl
        case c3 => omega
        case c4 => exact (hcst _ _).1
        case c5 => exact (hcst _ _).2
        have R1 := hide (drop_keep HI.out hlt HFT.out hcon (Obj.cells #[.string ⟨f.toArray⟩, .string ⟨t.toArray⟩] 77) (Obj.cells #[.string ⟨f.toArray⟩, .string ⟨t.toArray⟩] 77))
        go_roundw
        case rel => exact ⟨i + 1, E', by omega, by rw [R1.out.2], by go_num, R1.out.1⟩
        case measure => simp [intOf]; omega
    · have hiR : i = R.length := by omega
      subst hiR
      obtain ⟨ag, iv, items, s1, _⟩ := hI.ss.st
      have c1 : wr.cell? ⟨sb, 1, none⟩ = some (.slice sa R.length cap) := cellAt s1 rfl
      have f1 := frozen_of_row wr sb 1 _ _ s1
      have HI := hide hI
      clear hI s1
      go_wp2
      go_end0
      exact ⟨rfl, E', drop_end HI.out rfl⟩
end Go.Proofs.YtfiebibpgbadlaaGreat
namespace Go.Proofs.YtfiebibpgbadlaaGreat
open Go.RowKit
set_option linter.unusedVariables false
set_option linter.unusedSimpArgs false

/-- the less word of a rule is written anew. -/
theorem RulesAt.setTo {w : World} {B g n cap : Nat} {R : List Hw.Rl} (h : RulesAt w B (.slice (some ⟨g, 0, none⟩) n cap) R) {j : Nat} (hj : j < R.length) (t : Hw.Wd) :
    RulesAt (w.setCell ⟨g, j * 2 + 1, none⟩ (.string ⟨t.toArray⟩)) B (.slice (some ⟨g, 0, none⟩) n cap) (R.set j ((R[j]).1, t)) := by
  rcases h.2 with ⟨_, h2⟩ | ⟨g', cap', cur, h1, hb, hg, hn, hm, hsz, ht⟩
  · omega
  · simp only [Value.slice.injEq, Option.some.injEq, Addr.mk.injEq] at h1
    obtain ⟨⟨rfl, -, -⟩, e, rfl⟩ := h1
    have el : (R.set j ((R[j]).1, t)).length = R.length := by simp
    unfold RulesAt
    rw [el]
    refine ⟨by rw [length_rcells, el], .inr ⟨g, cap, _, by rw [e], hb, heap_setCell_same w g _ _ _ _ hg, hn, hm, by simpa using hsz, ?_⟩⟩
    simp only [Array.toList_setIfInBounds, List.take_set]
    rw [ht, ← rcells_set R j ((R[j]).1, t) hj]
    congr 1
    have h0 := (rcells_at R j hj).1
    have hlt : j * 2 < (rcells R).length := by rw [length_rcells]; omega
    rw [List.getElem?_eq_getElem hlt] at h0
    rw [← Option.some.inj h0, List.set_getElem_self]
end Go.Proofs.YtfiebibpgbadlaaGreat
namespace Go.Proofs.YtfiebibpgbadlaaGreat
open Go.RowKit
set_option linter.unusedVariables false
set_option linter.unusedSimpArgs false

def rbox (r : Hw.Rl) : Obj := .cells #[.string ⟨r.1.toArray⟩, .string ⟨r.2.toArray⟩] 77 (0, 0)

theorem mem_kept (X : Hw.Wd) (R : List Hw.Rl) (a : Hw.Rl) : a ∈ keptL X R R.length ↔ a ∈ R ∧ ¬ Hw.Occ X a.1 := by
  unfold keptL
  rw [List.take_of_length_le (Nat.le_refl _), List.mem_filter]
  unfold keepB
  constructor
  · rintro ⟨h1, h2⟩
    refine ⟨h1, fun ho => ?_⟩
    rw [(Hw.contains_iff a.1 X).2 ho] at h2; cases h2
  · rintro ⟨h1, h2⟩
    refine ⟨h1, ?_⟩
    cases hb : Lib.contains a.1 X with
    | false => rfl
    | true => exact absurd ((Hw.contains_iff a.1 X).1 hb) h2

theorem apart_kept (X : Hw.Wd) {R : List Hw.Rl} (h : Hw.Apart R) : Hw.Apart (keptL X R R.length) := by
  unfold keptL
  rw [List.take_of_length_le (Nat.le_refl _)]
  exact List.Pairwise.filter _ h

/-- behind the new rule's append. -/
structure AddA (w wr : World) (B sb qb M H : Nat) (rv : Value) (R E : List Hw.Rl) (r : Hw.Rl) : Prop where
  below : Below B w wr
  ss : SS wr B sb qb M rv R E
  box : wr.heap[H]? = some (rbox r)
  own : ∀ k, rv.ownBlock = some k → k ≠ H
  pk : PK qb w wr

theorem add_append {w w2 w0 w3 : World} {B sb qb M H cap : Nat} {sa : Option Addr} {R E : List Hw.Rl} {r : Hw.Rl} {v' : Value} {o : Obj} (hb : Below B w w2) (hpk : PK qb w w2) (hS : SS w2 B sb qb M (.slice sa R.length cap) R E) (hbox : w2.heap[H]? = some (rbox r)) (hH : ∀ k, (Value.slice sa R.length cap).ownBlock = some k → k ≠ H)
    (h0 : SameW (w2.alloc o) w0) (hown : w3.ownsRow B 77 2 v' (R.length + 1) (rcells R ++ [.string ⟨r.1.toArray⟩, .string ⟨r.2.toArray⟩])) (hgrow : w0.grownBy w3 (Value.slice sa R.length cap).ownBlock)
    (hex : ∀ k, v'.ownBlock = some k → (Value.slice sa R.length cap).ownBlock = some k ∨ w0.heap.size ≤ k) :
    (∃ ag, w3.heap[sb]? = some (sblock M (.slice sa R.length cap) qb ag)) ∧ AddA w (w3.setCell ⟨sb, 1, none⟩ v') B sb qb M H v' (R ++ [r]) E r := by
  obtain ⟨ag, iv, items, s1, s2, s3⟩ := hS.st
  obtain ⟨m, hm⟩ := hS.mx
  have hsq := sblock_ne s1 s2
  have hw0 : w0.heap.size = w2.heap.size + 1 := by rw [h0.1]; simp
  have hOwn : ∀ k, (Value.slice sa R.length cap).ownBlock = some k → ∃ c, w2.heap[k]? = some (.cells c 77 (0, 0)) ∧ B ≤ k := by
    intro k hk
    rcases hS.rul.2 with ⟨h1, _⟩ | ⟨g, cap2, cur, h1, hb2, hg, _⟩
    · rw [h1] at hk; simp [Value.ownBlock] at hk
    · rw [h1] at hk; simp [Value.ownBlock] at hk; subst hk; exact ⟨cur, hg, hb2⟩
  have hK : Kept (Value.slice sa R.length cap).ownBlock.toList w2 w3 := (((Kept.refl _ w2).alloc _).trans (h0.kept _)).trans (Kept.of_grown hgrow (fun k hk => by simp [hk]))
  have nsb : (Value.slice sa R.length cap).ownBlock ≠ some sb := fun e => by obtain ⟨c, hc, _⟩ := hOwn _ e; rw [s1] at hc; simp [sblock] at hc
  have nqb : (Value.slice sa R.length cap).ownBlock ≠ some qb := fun e => by obtain ⟨c, hc, _⟩ := hOwn _ e; rw [s2.blk] at hc; simp at hc
  have t1 := hK.at s1 (by simpa using nsb)
  have hK2 : Kept [sb] w3 (w3.setCell ⟨sb, 1, none⟩ v') := (Kept.refl _ _).setCell (Or.inl (by simp)) _
  have hlb : Below B w2 w3 := hK.below hS.size (fun k hk => by simp at hk; obtain ⟨c, _, h⟩ := hOwn k hk; exact h)
  have hlb2 : Below B w3 (w3.setCell ⟨sb, 1, none⟩ v') := hK2.below (by have := hS.size; have := hlb.size; omega) (by simp; exact hS.lo1)
  have hcell : (w3.setCell ⟨sb, 1, none⟩ v').cell? ⟨0, 0, none⟩ = some (.int .i64 m) := ((hlb.trans hlb2).cell (p := ⟨0, 0, none⟩) hS.pos).trans hm
  have hv3 : ∀ k, v'.ownBlock = some k → k ≠ sb := by
    rintro k hk rfl
    rcases hown.2 with ⟨h1, _⟩ | ⟨g, cap2, cur, h1, _, hg, _⟩
    · rw [h1] at hk; simp [Value.ownBlock] at hk
    · rw [h1] at hk; simp [Value.ownBlock] at hk; subst hk; rw [t1] at hg; simp [sblock] at hg
  refine ⟨⟨ag, t1⟩, (hb.trans hlb).trans hlb2, ⟨hS.lo1, hS.lo2, hS.pos, ⟨m, hcell⟩, ?_, ag, iv, items, ?_, ?_, s3⟩, ?_, ?_, ?_⟩
  · have e : rcells (R ++ [r]) = rcells R ++ [.string ⟨r.1.toArray⟩, .string ⟨r.2.toArray⟩] := by simp [rcells]
    have hR3 : RulesAt w3 B v' (R ++ [r]) := by
      unfold RulesAt
      rw [e, show (R ++ [r]).length = R.length + 1 by simp]
      exact hown
    exact hR3.kept hK2 (fun k hk e => by simp at hk; subst hk; exact hv3 _ e rfl)
  · rw [heap_setCell_same _ _ 1 _ _ _ t1]; rfl
  · refine ⟨hK2.at (hK.at s2.blk (by simpa using nqb)) (by simp; omega), s2.own.1, ?_⟩
    rcases s2.own.2 with h1 | ⟨g3, cap3, cur3, h1, h2, hg3, r3⟩
    · exact .inl h1
    · have n1 : (Value.slice sa R.length cap).ownBlock ≠ some g3 := fun e => by obtain ⟨c, hc, _⟩ := hOwn _ e; rw [hg3] at hc; simp at hc
      have n2 : g3 ≠ sb := by rintro rfl; rw [s1] at hg3; simp [sblock] at hg3
      exact .inr ⟨g3, cap3, cur3, h1, h2, hK2.at (hK.at hg3 (by simpa using n1)) (by simpa using n2), r3⟩
  · have n1 : (Value.slice sa R.length cap).ownBlock ≠ some H := fun e => hH _ e rfl
    have n2 : H ≠ sb := by rintro rfl; rw [s1] at hbox; simp [sblock, rbox] at hbox
    exact hK2.at (hK.at hbox (by simpa using n1)) (by simpa using n2)
  · rintro k hk rfl
    have hl := lt_of_block hbox
    rcases hex _ hk with h | h
    · exact hH _ h rfl
    · omega
  · refine (hpk.trans (PK.of_kept hK hS.qlt (by simpa using nqb) ?_)).trans (PK.of_kept hK2 (Nat.lt_of_lt_of_le hS.qlt hK.size) (by simp; omega) ?_)
    · intro k hk c fr e
      obtain ⟨c2, hc2, _⟩ := hOwn k (by simpa using hk)
      rw [hc2] at e; simp at e
    · simp only [List.mem_singleton]
      rintro k rfl c fr e
      rw [t1] at e; simp [sblock] at e

/-- while the less words are made less. -/
structure RedI (w wr : World) (B sb qb L M H : Nat) (rv : Value) (said R0 R E : List Hw.Rl) (r : Hw.Rl) : Prop where
  a : AddA w wr B sb qb M H rv R E r
  inv : Hw.Inv L M said R E (fun x => x = r.1)
  fst : R.map Prod.fst = R0.map Prod.fst
  same : ∀ a, a ∈ R → a.1 = r.1 → a.2 = r.2

theorem red_step {w wr w2 : World} {B sb qb L M H g n cap i : Nat} {said R0 R E : List Hw.Rl} {r : Hw.Rl} (hL1 : 1 ≤ L) (hL3 : L ≤ 3) (h : RedI w wr B sb qb L M H (.slice (some ⟨g, 0, none⟩) n cap) said R0 R E r) (hirr : Hw.Irr R0 r.2) (hi : i < R.length) {t' : Hw.Wd} (hnf : Hw.NF R (R[i]).2 t')
    (hb : Below wr.heap.size wr w2) : RedI w (w2.setCell ⟨g, i * 2 + 1, none⟩ (.string ⟨t'.toArray⟩)) B sb qb L M H (.slice (some ⟨g, 0, none⟩) n cap) said R0 (R.set i ((R[i]).1, t')) E r := by
  have hS := h.a.ss.below hb
  obtain ⟨g', cap', cur, hrv, hgB, hgg, _⟩ := hS.rul.read (i := i) hi
  simp only [Value.slice.injEq, Option.some.injEq, Addr.mk.injEq] at hrv
  obtain ⟨⟨rfl, -, -⟩, -, rfl⟩ := hrv
  have hK : Kept [g] w2 (w2.setCell ⟨g, i * 2 + 1, none⟩ (.string ⟨t'.toArray⟩)) := (Kept.refl _ _).setCell (Or.inl (by simp)) _
  obtain ⟨ag, iv, items, s1, s2, s3⟩ := hS.st
  obtain ⟨m, hm⟩ := hS.mx
  have n1 : sb ≠ g := by rintro rfl; rw [s1] at hgg; simp [sblock] at hgg
  have n2 : qb ≠ g := by rintro rfl; rw [s2.blk] at hgg; simp at hgg
  have hgH : g ≠ H := h.a.own g rfl
  have hbox2 := (hb.block H (lt_of_block h.a.box)).trans h.a.box
  have hspl : R = R.take i ++ R[i] :: R.drop (i + 1) := by rw [← List.drop_eq_getElem_cons hi, List.take_append_drop]
  have hset : R.set i ((R[i]).1, t') = R.take i ++ ((R[i]).1, t') :: R.drop (i + 1) := by rw [List.set_eq_take_append_cons_drop, if_pos hi]
  refine ⟨⟨(h.a.below.trans (hb.mono h.a.ss.size)).trans (hK.below hS.size (by simp; omega)), ⟨hS.lo1, hS.lo2, hS.pos, ⟨m, hK.cell hm (by simp; have := hS.pos; omega)⟩, hS.rul.setTo hi t', ag, iv, items, hK.at s1 (by simpa using n1), ⟨hK.at s2.blk (by simpa using n2), s2.own.1, ?_⟩, s3⟩, hK.at hbox2 (by simp; omega), h.a.own, (h.a.pk.trans (PK.of_below hb h.a.ss.qlt)).trans (PK.of_kept hK hS.qlt (by simpa using n2) (by simp only [List.mem_singleton]; rintro k rfl c fr e; rw [hgg] at e; simp at e))⟩, ?_, ?_, ?_⟩
  · rcases s2.own.2 with h1 | ⟨g3, cap3, cur3, h1, h2, hg3, r3⟩
    · exact .inl h1
    · refine .inr ⟨g3, cap3, cur3, h1, h2, hK.at hg3 ?_, r3⟩
      simp; rintro rfl; rw [hgg] at hg3; simp at hg3
  · have hinv := h.inv
    rw [hspl] at hinv
    have hst : Hw.Steps (R.take i ++ R[i] :: R.drop (i + 1)) (R[i]).2 t' := by rw [← hspl]; exact hnf.1
    rw [hset]
    exact Hw.Inv.reduce hL1 hL3 (f := (R[i]).1) (t := (R[i]).2) hinv hst
  · rw [hset, List.map_append, List.map_cons, ← h.fst]
    conv => rhs; rw [hspl, List.map_append, List.map_cons]
  · intro a ha hx
    rw [hset] at ha
    rcases List.mem_append.1 ha with ha | ha
    · exact h.same a (List.mem_of_mem_take ha) hx
    · rcases List.mem_cons.1 ha with rfl | ha
      · have h1 := h.same R[i] (List.getElem_mem hi) hx
        have hir : Hw.Irr R (R[i]).2 := by rw [h1]; exact Hw.irr_fst h.fst hirr
        show t' = r.2
        rw [← hnf.1.of_irr hir, h1]
      · exact h.same a (List.mem_of_mem_drop ha) hx
end Go.Proofs.YtfiebibpgbadlaaGreat
