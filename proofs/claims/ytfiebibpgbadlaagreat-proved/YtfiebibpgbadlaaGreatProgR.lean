import Derived.Test.YtfiebibpgbadlaaGreatProgP
import Derived.Test.YtfiebibpgbadlaaGreatSrt
import Derived.Deep.LoopGhost
namespace Go.Proofs.YtfiebibpgbadlaaGreat
open Go.RowKit
set_option linter.unusedVariables false
set_option linter.unusedSimpArgs false
attribute [local go_sem] run_store_float

theorem SS.qf {w w' : World} {B sb qb M : Nat} {rv iv' : Value} {R E : List Hw.Rl} {items' : List Item} (h : SS w B sb qb M rv R E) (hq : QF B qb w w') (hQ : QAt w' B qb iv' items') : SS w' B sb qb M rv R (pend items') ∧ Below B w w' := by
  have hb : Below B w w' := hq.below h.lo2 h.size
  obtain ⟨ag, iv, items, s1, s2, s3⟩ := h.st
  obtain ⟨m, hm⟩ := h.mx
  refine ⟨⟨h.lo1, h.lo2, h.pos, ⟨m, (hb.cell (p := ⟨0, 0, none⟩) h.pos).trans hm⟩, h.rul.qf hq s2.not_rule, ag, iv', items', hq.other sb _ s1 (sblock_ne s1 s2) (by intro c fr e; simp [sblock] at e), hQ, rfl⟩, hb⟩

/-- What Take has given. -/
def Taken (w w' : World) (B sb qb M : Nat) (rv : Value) (R E : List Hw.Rl) (l0 r0 : Hw.Wd) (ok : Bool) : Prop :=
  (Below B w w' ∧ PK qb w w') ∧ ∃ E', SS w' B sb qb M rv R E' ∧ ((ok = false ∧ E = [] ∧ E' = []) ∨ (ok = true ∧ E'.length + 1 = E.length ∧ (l0, r0) ∈ E ∧ (∀ e, e ∈ E → e = (l0, r0) ∨ e ∈ E') ∧ ∀ e, e ∈ E' → e ∈ E))

theorem take_any (w : World) (B sb qb M : Nat) (rv : Value) (R E : List Hw.Rl) (hn : E.length ≤ 1000000000) (hS : SS w B sb qb M rv R E) :
    Calls Tryz.prog 76 #[.pointer (some ⟨qb, 0, none⟩)] w fun e w' => ∃ l0 r0 b ag ok, e = .returned (.tuple #[.agg #[.string ⟨l0.toArray⟩, .string ⟨r0.toArray⟩, .float .f64 b, .int .i64 ag], .bool ok]) ∧ Taken w w' B sb qb M rv R E l0 r0 ok := by
  obtain ⟨ag, iv, items, s1, s2, rfl⟩ := hS.st
  by_cases hp : 0 < items.length
  · refine (take_some w B qb iv items (by simpa [pend] using hn) hp s2).mono ?_
    rintro e w' ⟨p, iv', items', rfl, hT⟩
    have hs := hS.qf hT.kept hT.q
    refine ⟨p.1, p.2.1, p.2.2.1, p.2.2.2, true, rfl, ⟨hs.2, hT.kept.pk⟩, pend items', hs.1, Or.inr ⟨rfl, by simpa [pend] using hT.len, List.mem_map_of_mem hT.mem1, ?_, ?_⟩⟩
    · intro e he
      obtain ⟨x, hx, rfl⟩ := List.mem_map.1 he
      rcases hT.mem2 x hx with rfl | hx
      · exact Or.inl rfl
      · exact Or.inr (List.mem_map_of_mem hx)
    · intro e he
      obtain ⟨x, hx, rfl⟩ := List.mem_map.1 he
      exact List.mem_map_of_mem (hT.mem3 x hx)
  · have h0 : items = [] := List.length_eq_zero_iff.1 (by omega)
    subst h0
    refine (take_none w B qb iv s2).mono ?_
    rintro e w' ⟨rfl, hb⟩
    exact ⟨[], [], 0, 0, false, rfl, ⟨hb.mono hS.size, PK.of_below hb hS.qlt⟩, [], hS.below hb, Or.inl ⟨rfl, rfl, rfl⟩⟩

/-- while pairs wait. -/
def LI (w wr : World) (B sb qb L M : Nat) (said : List Hw.Rl) (l0 r0 : Hw.Wd) (ok : Bool) (k : Nat) : Prop :=
  Below B w wr ∧ ∃ rv R E, SS wr B sb qb M rv R E ∧ (R.length + Hw.cntIrr L M R ≤ 1093 ∧ Hw.ToIrr R) ∧ k ≤ 50000000 ∧
    ((ok = false ∧ E = [] ∧ Hw.Inv L M said R [] (fun _ => False)) ∨ (ok = true ∧ Hw.cntIrr L M R * 20000 + E.length < k ∧ ∃ Ep, Hw.Inv L M said R Ep (fun _ => False) ∧ (l0, r0) ∈ Ep ∧ (∀ e, e ∈ Ep → e = (l0, r0) ∨ e ∈ E) ∧ ∀ e, e ∈ E → e ∈ Ep))

theorem LI.of_taken {w wr w' : World} {B sb qb L M : Nat} {rv : Value} {said R E : List Hw.Rl} {l0 r0 : Hw.Wd} {ok : Bool} (hb : Below B w wr) (hI : Hw.Inv L M said R E (fun _ => False)) (hRl : R.length + Hw.cntIrr L M R ≤ 1093 ∧ Hw.ToIrr R) (hT : Taken wr w' B sb qb M rv R E l0 r0 ok) (hk : Hw.cntIrr L M R * 20000 + E.length ≤ 50000000) :
    LI w w' B sb qb L M said l0 r0 ok (Hw.cntIrr L M R * 20000 + E.length) := by
  obtain ⟨hb2, E', hS, h⟩ := hT
  refine ⟨hb.trans hb2.1, rv, R, E', hS, hRl, hk, ?_⟩
  rcases h with ⟨rfl, rfl, rfl⟩ | ⟨rfl, h1, h2, h3, h4⟩
  · exact Or.inl ⟨rfl, rfl, hI⟩
  · exact Or.inr ⟨rfl, by omega, E, hI, h2, h3, h4⟩

theorem SS.nr_new {w : World} {B sb qb M : Nat} {rv : Value} {R E : List Hw.Rl} (h : SS w B sb qb M rv R E) (o : Obj) : NR qb w.heap.size (w.alloc o) := by
  obtain ⟨ag, iv, items, s1, s2, s3⟩ := h.st
  intro iv2 h2 e
  have h3 : (w.alloc o).cell? ⟨qb, 0, none⟩ = some iv := ((Kept.refl [] w).alloc o).cell (cellAt s2.blk rfl) (by simp)
  rw [h3] at h2
  rw [← Option.some.inj h2] at e
  rcases s2.own.2 with ⟨h1, _⟩ | ⟨g, cap, cur, h1, hb, hg, _⟩
  · rw [h1] at e; simp [Value.ownBlock] at e
  · rw [h1] at e; simp [Value.ownBlock] at e; have := lt_of_block hg; omega

theorem SS.box {w w' : World} {B sb qb M pb : Nat} {rv : Value} {R E : List Hw.Rl} {c : Array Value} {fr : Nat × Nat} (h : SS w B sb qb M rv R E) (hb : w.heap[pb]? = some (.cells c 134 fr)) (hnr : NR qb pb w) (hB : B ≤ pb) (hK : Kept [pb] w w') : SS w' B sb qb M rv R E ∧ NR qb pb w' := by
  obtain ⟨ag, iv, items, s1, s2, s3⟩ := h.st
  obtain ⟨m, hm⟩ := h.mx
  have n1 : sb ≠ pb := by rintro rfl; rw [s1] at hb; simp [sblock] at hb
  have n2 : qb ≠ pb := by rintro rfl; rw [s2.blk] at hb; simp at hb
  have n3 : iv.ownBlock ≠ some pb := hnr iv (cellAt s2.blk rfl)
  have n4 : rv.ownBlock ≠ some pb := by
    intro e
    rcases h.rul.2 with ⟨h1, _⟩ | ⟨g, cap, cur, h1, _, hg, _⟩
    · rw [h1] at e; simp [Value.ownBlock] at e
    · rw [h1] at e; simp [Value.ownBlock] at e; subst e; rw [hg] at hb; simp at hb
  have hq := hK.at s2.blk (by simpa using n2)
  refine ⟨⟨h.lo1, h.lo2, h.pos, ⟨m, hK.cell hm (by simp; have := h.pos; omega)⟩, h.rul.kept hK (by simpa using n4), ag, iv, items, hK.at s1 (by simpa using n1), ⟨hq, s2.own.1, ?_⟩, s3⟩, ?_⟩
  · rcases s2.own.2 with h1 | ⟨g, cap, cur, rfl, h2, hg, r⟩
    · exact .inl h1
    · exact .inr ⟨g, cap, cur, rfl, h2, hK.at hg (by simp [Value.ownBlock] at n3; simpa using n3), r⟩
  · intro iv2 h2 e
    rw [show w'.cell? ⟨qb, 0, none⟩ = some iv from cellAt hq rfl] at h2
    rw [← Option.some.inj h2] at e
    exact n3 e

/-- The pair at hand lies in its own place. -/
def PB (wr : World) (qb pb : Nat) (l0 r0 : Hw.Wd) (b : Nat) (ag : Int) : Prop := wr.heap[pb]? = some (pbox l0 r0 b ag) ∧ NR qb pb wr

theorem LI.alloc {w wr : World} {B sb qb L M : Nat} {said : List Hw.Rl} {l0 r0 : Hw.Wd} {ok : Bool} {k : Nat} (h : LI w wr B sb qb L M said l0 r0 ok k) (b : Nat) (ag : Int) : LI w (wr.alloc (pbox l0 r0 b ag)) B sb qb L M said l0 r0 ok k ∧ PB (wr.alloc (pbox l0 r0 b ag)) qb wr.heap.size l0 r0 b ag := by
  obtain ⟨hb, rv, R, E, hS, h1, h2, h3⟩ := h
  exact ⟨⟨hb.alloc hS.size _, rv, R, E, hS.below ((Below.refl _ _).alloc (Nat.le_refl _) _), h1, h2, h3⟩, heap_alloc_new wr _, hS.nr_new _⟩

theorem LI.cell {w wr : World} {B sb qb L M : Nat} {said : List Hw.Rl} {l0 r0 : Hw.Wd} {ok : Bool} {k : Nat} (h : LI w wr B sb qb L M said l0 r0 ok k) : wr.cell? ⟨sb, 2, none⟩ = some (.pointer (some ⟨qb, 0, none⟩)) := by
  obtain ⟨hb, rv, R, E, hS, h1, h2, h3⟩ := h
  obtain ⟨ag, iv, items, s1, _⟩ := hS.st
  exact cellAt s1 rfl

theorem look_take {w wr w5 w7 : World} {B sb qb L M : Nat} {rv' : Value} {said R' E' : List Hw.Rl} {l0 r0 l1 r1 : Hw.Wd} {b b1 : Nat} {ag ag1 : Int} {ok : Bool}
    (hb : Below B w wr) (hp : Below B wr w5) (hS : SS w5 B sb qb M rv' R' E') (hInv : Hw.Inv L M said R' E' (fun _ => False)) (hRl : R'.length + Hw.cntIrr L M R' ≤ 1093 ∧ Hw.ToIrr R') (hk : Hw.cntIrr L M R' * 20000 + E'.length ≤ 50000000)
    (hT : Taken (w5.alloc (pbox l0 r0 b ag)) w7 B sb qb M rv' R' E' l1 r1 ok) :
    w7.heap[w5.heap.size]? = some (pbox l0 r0 b ag) ∧
    LI w ((((w7.setCell ⟨w5.heap.size, 0, none⟩ (.string ⟨l1.toArray⟩)).setCell ⟨w5.heap.size, 1, none⟩ (.string ⟨r1.toArray⟩)).setCell ⟨w5.heap.size, 2, none⟩ (.float .f64 b1)).setCell ⟨w5.heap.size, 3, none⟩ (.int .i64 ag1)) B sb qb L M said l1 r1 ok (Hw.cntIrr L M R' * 20000 + E'.length) ∧
    PB ((((w7.setCell ⟨w5.heap.size, 0, none⟩ (.string ⟨l1.toArray⟩)).setCell ⟨w5.heap.size, 1, none⟩ (.string ⟨r1.toArray⟩)).setCell ⟨w5.heap.size, 2, none⟩ (.float .f64 b1)).setCell ⟨w5.heap.size, 3, none⟩ (.int .i64 ag1)) qb w5.heap.size l1 r1 b1 ag1 := by
  have hpk := hT.1.2 _ _ _ (heap_alloc_new w5 (pbox l0 r0 b ag)) (hS.nr_new _)
  have hbb : Below B w (w5.alloc (pbox l0 r0 b ag)) := (hb.trans hp).alloc hS.size _
  obtain ⟨hb7, rv2, R2, E2, hS2, h1, h2, h3⟩ := LI.of_taken hbb hInv hRl hT hk
  have hK : Kept [w5.heap.size] w7 ((((w7.setCell ⟨w5.heap.size, 0, none⟩ (.string ⟨l1.toArray⟩)).setCell ⟨w5.heap.size, 1, none⟩ (.string ⟨r1.toArray⟩)).setCell ⟨w5.heap.size, 2, none⟩ (.float .f64 b1)).setCell ⟨w5.heap.size, 3, none⟩ (.int .i64 ag1)) :=
    ((((Kept.refl _ _).setCell (Or.inl (by simp)) _).setCell (Or.inl (by simp)) _).setCell (Or.inl (by simp)) _).setCell (Or.inl (by simp)) _
  have hs := hS2.box hpk.1 hpk.2 hS.size hK
  refine ⟨hpk.1, ⟨hb7.trans (hK.below hS2.size (by simp; exact hS.size)), rv2, R2, E2, hs.1, h1, h2, h3⟩, ?_, hs.2⟩
  have e0 := heap_setCell_same w7 w5.heap.size 0 _ _ (.string ⟨l1.toArray⟩) hpk.1
  have e1 := heap_setCell_same _ w5.heap.size 1 _ _ (.string ⟨r1.toArray⟩) e0
  have e2 := heap_setCell_same _ w5.heap.size 2 _ _ (.float .f64 b1) e1
  have e3 := heap_setCell_same _ w5.heap.size 3 _ _ (.int .i64 ag1) e2
  rw [e3]; rfl

theorem learn_start {w w1 : World} {M cap : Nat} {sa : Option Addr} {R : List Hw.Rl} {m : Int} (hm : w.cell? ⟨0, 0, none⟩ = some (.int .i64 m)) (hb : Below w.heap.size w w1) (hR : RulesAt w1 w.heap.size (.slice sa R.length cap) R) :
    SS ((w1.alloc (.cells #[.slice none 0 0, .func (.func 74) #[] #[]] 165)).alloc (sblock M (.slice sa R.length cap) w1.heap.size 0)) w.heap.size (w1.heap.size + 1) w1.heap.size M (.slice sa R.length cap) R [] := by
  have hs := hb.size
  have hlt := lt_of_cell hm
  have hK : Kept [] w1 ((w1.alloc (.cells #[.slice none 0 0, .func (.func 74) #[] #[]] 165)).alloc (sblock M (.slice sa R.length cap) w1.heap.size 0)) := ((Kept.refl [] w1).alloc _).alloc _
  refine ⟨by omega, by omega, by omega, ⟨m, hK.cell ((hb.cell (p := ⟨0, 0, none⟩) hlt).trans hm) (by simp)⟩, hR.kept hK (by simp), 0, .slice none 0 0, [], ?_, ⟨?_, World.ownsRow_nil _ _ _ _⟩, rfl⟩
  · have := heap_alloc_new (w1.alloc (.cells #[.slice none 0 0, .func (.func 74) #[] #[]] 165)) (sblock M (.slice sa R.length cap) w1.heap.size 0)
    simpa using this
  · have h1 := heap_alloc_new w1 (.cells #[.slice none 0 0, .func (.func 74) #[] #[]] 165)
    exact (Below.heap_alloc _ _ _ (lt_of_block h1)).trans h1

theorem one_pend {E : List Hw.Rl} {p : Hw.Rl} (hl : E.length = ([] : List Hw.Rl).length + 1) (h : ∀ e, e ∈ E ↔ e ∈ ([] : List Hw.Rl) ∨ e = p) : E = [p] := by
  match E, hl with
  | [a], _ => rw [((h a).1 (by simp)).resolve_left (by simp)]
  | [], hl => simp at hl
  | a :: b :: E, hl => simp at hl

theorem SS.own {w : World} {B sb qb M : Nat} {rv : Value} {R E : List Hw.Rl} (h : SS w B sb qb M rv R E) : ∀ k, rv.ownBlock = some k → k ≠ sb ∧ B ≤ k := by
  obtain ⟨ag, iv, items, s1, s2, s3⟩ := h.st
  intro k e
  rcases h.rul.2 with ⟨h1, _⟩ | ⟨g, cap, cur, h1, hB, hg, _⟩
  · rw [h1] at e; simp [Value.ownBlock] at e
  · rw [h1] at e; simp [Value.ownBlock] at e; subst e
    exact ⟨by rintro rfl; rw [s1] at hg; simp [sblock] at hg, hB⟩

theorem learn_fin {w wr w9 : World} {L M : Nat} {rv : Value} {said R2 R9 : List Hw.Rl} {S : List Nat} (hL1 : 1 ≤ L) (hL3 : L ≤ 3)
    (h : Below w.heap.size w wr ∧ RulesAt wr w.heap.size rv R2 ∧ Hw.Fin L M said R2 ∧ R2.length + Hw.cntIrr L M R2 ≤ 1093 ∧ Hw.ToIrr R2)
    (hp : R9.Perm R2) (hs : R9.Pairwise fun a b => Hw.fold L a.1 ≤ Hw.fold L b.1) (hR : RulesAt w9 w.heap.size rv R9) (hK : Kept S wr w9) (hS : ∀ k, k ∈ S → w.heap.size ≤ k) :
    Below w.heap.size w w9 ∧ RulesAt w9 w.heap.size rv R9 ∧ Hw.Fin L M said R9 ∧ R9.length + Hw.cntIrr L M R9 ≤ 1093 ∧ Hw.ToIrr R9 ∧ Hw.Rises L R9 := by
  obtain ⟨h1, h2, h3, h4, h5⟩ := h
  have hF := h3.perm hp
  refine ⟨h1.trans (hK.below h1.size hS), hR, hF, ?_, h5.perm hp, Hw.sorted_strict hL1 hL3 hF.apart hF.rules.from_ hs⟩
  rw [hp.length_eq, Hw.cntIrr_perm hp]; exact h4

set_option maxRecDepth 100000 in
set_option maxHeartbeats 3200000 in
theorem learn_any (w : World) (B0 L M : Nat) (rv : Value) (said R : List Hw.Rl) (l r : Hw.Wd) (m : Int) (hL1 : 1 ≤ L) (hL3 : L ≤ 3) (hM6 : M ≤ 6) (hRl : R.length + Hw.cntIrr L M R ≤ 1093)
    (hFin : Hw.Fin L M said R) (hl : Hw.isWord L M l = true) (hr : Hw.isWord L M r = true) (hR : RulesAt w B0 rv R) (hm : w.cell? ⟨0, 0, none⟩ = some (.int .i64 m)) (hTo : Hw.ToIrr R) :
    Calls Tryz.prog 50 #[rv, .string ⟨l.toArray⟩, .string ⟨r.toArray⟩, .int .i64 (M : Nat)] w fun e w' => ∃ rv' R', e = .returned rv' ∧ Below w.heap.size w w' ∧ RulesAt w' w.heap.size rv' R' ∧ Hw.Fin L M (said ++ [(l, r)]) R' ∧ R'.length + Hw.cntIrr L M R' ≤ 1093 ∧ Hw.ToIrr R' ∧ Hw.Rises L R' := by
  have HInv := hide (Hw.Inv.start hL3 hFin hl hr)
  have HR := hide hR
  have hl6 : l.length ≤ 6 := by have := Hw.isWord_len hl; omega
  have hr6 : r.length ≤ 6 := by have := Hw.isWord_len hr; omega
  clear hR hFin
  go_enter Tryz.func50, Tryz.ntmps50
  go_wp2_with fail
  refine (clone_any _ B0 rv R (by omega) HR.out).mono ?_
  rintro e w1 ⟨rv1, rfl, hb1, hR1⟩
  obtain ⟨sa1, cap1, rfl⟩ := hR1.shape
  have HB1 := hide hb1
  have HR1 := hide hR1
  clear hb1 hR1
  go_wp2_with fail
  refine (qnew_any 74 _).mono ?_
  rintro e w2 ⟨rfl, rfl⟩
  go_wp2_with fail
  refine (wait_any _ w.heap.size (w1.heap.size + 1) w1.heap.size M _ R [] l r hl6 hr6 (by simp) (by exact learn_start hm HB1.out HR1.out)).mono ?_
  rintro e w3 ⟨rfl, ⟨hb3, hsf3⟩, E3, hl3, hm3, hS3⟩
  have h3 := one_pend hl3 hm3
  subst h3
  have HB3 : Hid (Below w.heap.size w w3) := ((HB1.out.alloc HB1.out.size _).alloc (by have := HB1.out.size; simp; omega) _).trans hb3
  have HS3 := hide hS3
  obtain ⟨ag, iv, items, h1, _⟩ := hS3.st
  have c2 : w3.cell? ⟨w1.heap.size + 1, 2, none⟩ = some (.pointer (some ⟨w1.heap.size, 0, none⟩)) := cellAt h1 rfl
  clear hb3 hsf3 hl3 hm3 hS3 h1
  go_wp2_with fail
  refine (take_any _ w.heap.size (w1.heap.size + 1) w1.heap.size M _ R [(l, r)] (by simp) (by exact HS3.out)).mono ?_
  rintro e w4 ⟨l0, r0, b0, a0, ok, rfl, hT⟩
  have H0 := hide ((LI.of_taken HB3.out HInv.out ⟨hRl, hTo⟩ hT (by simp; omega)).alloc b0 a0)
  clear hT c2
  go_wp2_with fail
  go_loopg [10, 11] (Hw.cntIrr L M R * 20000 + [(l, r)].length) (fun k pv okv wr => ∃ l0 r0 b ag ok pb, pv = .pointer (some ⟨pb, 0, none⟩) ∧ okv = .bool ok ∧ PB wr (w1.heap.size) pb l0 r0 b ag ∧ LI w wr w.heap.size (w1.heap.size + 1) w1.heap.size L M (said ++ [(l, r)]) l0 r0 ok k)
  case atStart => exact ⟨l0, r0, b0, a0, ok, _, rfl, rfl, H0.out.2, H0.out.1⟩
  case round =>
    clear H0
    obtain ⟨l0, r0, b, ag, ok, pb, rfl, rfl, hPB, hLI⟩ := hrel
    cases ok with
    | false =>
      obtain ⟨hb, rv2, R2, E2, hS2, ⟨h1, hTo2⟩, h2, h3⟩ := hLI
      have hInv2 : Hw.Inv L M (said ++ [(l, r)]) R2 [] (fun _ => False) := by
        rcases h3 with ⟨_, _, h⟩ | ⟨h, _⟩
        · exact h
        · cases h
      obtain ⟨sa2, cap2, rfl⟩ := hS2.rul.shape
      have c1 : wr.cell? ⟨w1.heap.size + 1, 1, none⟩ = some (.slice sa2 R2.length cap2) := by
        obtain ⟨ag, iv, items, s1, _⟩ := hS2.st
        exact cellAt s1 rfl
      have R1 : Hid (Below w.heap.size w wr ∧ RulesAt wr w.heap.size (.slice sa2 R2.length cap2) R2 ∧ Hw.Fin L M (said ++ [(l, r)]) R2 ∧ R2.length + Hw.cntIrr L M R2 ≤ 1093 ∧ Hw.ToIrr R2) := ⟨hb, hS2.rul, hInv2.fin, h1, hTo2⟩
      have HOK : Hid (∀ r, r ∈ R2 → Hw.Ok L r.1) := fun r hr => Hw.isWord_ok (hInv2.rules.from_ r hr)
      have HOWN := hide hS2.own
      clear hS2 hInv2 h3 hb hPB
      go_wp2_with fail
      refine (sort_any _ w.heap.size L M _ R2 hL1 hL3 (by omega) HOK.out (by exact R1.out.2.1)).mono ?_
      rintro e w9 ⟨rfl, R9, hp9, hs9, hR9, S9, hK9, hS9⟩
      have c9 : w9.cell? ⟨w1.heap.size + 1, 1, none⟩ = some (.slice sa2 R2.length cap2) := hK9.cell c1 (fun hm => (HOWN.out _ (hS9 _ hm)).1 rfl)
      have R10 := hide (learn_fin hL1 hL3 R1.out hp9 hs9 hR9 hK9 (fun k hk => (HOWN.out k (hS9 k hk)).2))
      clear hp9 hs9 hR9 hK9 hS9 c1
      go_wp2
      go_ret
      exact ⟨_, R9, rfl, R10.out⟩
    | true =>
      have p0 := cellAt hPB.1 (j := 0) rfl
      have p1 := cellAt hPB.1 (j := 1) rfl
      have p2 := cellAt hPB.1 (j := 2) rfl
      have p3 := cellAt hPB.1 (j := 3) rfl
      obtain ⟨hb, rv2, R2, E2, hS2, ⟨h1, hTo2⟩, h2, h3⟩ := hLI
      obtain ⟨hk, Ep, hI2, m1, m2, m3⟩ : Hw.cntIrr L M R2 * 20000 + E2.length < gk ∧ ∃ Ep, Hw.Inv L M (said ++ [(l, r)]) R2 Ep (fun _ => False) ∧ (l0, r0) ∈ Ep ∧ (∀ e, e ∈ Ep → e = (l0, r0) ∨ e ∈ E2) ∧ ∀ e, e ∈ E2 → e ∈ Ep := by
        rcases h3 with ⟨h, _⟩ | ⟨_, h⟩
        · cases h
        · exact h
      have HB := hide hb
      have HS2 := hide hS2
      have HPB := hide hPB
      have HI2 := hide hI2
      have HM := hide (And.intro m1 (And.intro m2 m3))
      clear hb hS2 hPB hI2 m1 m2 m3 h3
      go_wp2_with fail
      refine (look_any _ w.heap.size (w1.heap.size + 1) w1.heap.size L M rv2 (said ++ [(l, r)]) R2 Ep E2 l0 r0 b ag hL1 hL3 hM6 h1 (by omega) HI2.out HM.out.1 HM.out.2.1 HM.out.2.2 HS2.out).mono ?_
      rintro e w5 ⟨rfl, ⟨hb5, hpk5⟩, rv5, R5, E5, hS5, hI5, a1, a2, a3⟩
      have hbx := (hpk5 _ _ _ HPB.out.1 HPB.out.2).1
      clear p0 p1 p2 p3
      have p0 : w5.cell? ⟨pb, 0, none⟩ = some (.string ⟨l0.toArray⟩) := cellAt hbx rfl
      have p1 : w5.cell? ⟨pb, 1, none⟩ = some (.string ⟨r0.toArray⟩) := cellAt hbx rfl
      have p2 : w5.cell? ⟨pb, 2, none⟩ = some (.float .f64 b) := cellAt hbx rfl
      have p3 : w5.cell? ⟨pb, 3, none⟩ = some (.int .i64 ag) := cellAt hbx rfl
      have c2 : w5.cell? ⟨w1.heap.size + 1, 2, none⟩ = some (.pointer (some ⟨w1.heap.size, 0, none⟩)) := by
        obtain ⟨ag, iv, items, s1, _⟩ := hS5.st
        exact cellAt s1 rfl
      have hsl := lt_of_cell c2
      have HB5 := hide hb5
      have HS5 := hide hS5
      have HI5 := hide hI5
      have HTO5 := hide (a3 hTo2)
      clear a3 hTo2
      clear hb5 hpk5 hS5 hI5 hbx
      go_wp2_with fail
      refine (take_any _ w.heap.size (w1.heap.size + 1) w1.heap.size M rv5 R5 E5 (by omega) (by exact HS5.out.below ((Below.refl _ _).alloc (Nat.le_refl _) _))).mono ?_
      rintro e w7 ⟨l1, r1, b1, ag1, ok1, rfl, hT⟩
      have hLT := look_take (l0 := l0) (r0 := r0) (b := b) (ag := ag) (b1 := b1) (ag1 := ag1) HB.out HB5.out HS5.out HI5.out ⟨by omega, HTO5.out⟩ (by omega) hT
      have q0 : w7.cell? ⟨w5.heap.size, 0, none⟩ = some (.string ⟨l0.toArray⟩) := cellAt hLT.1 rfl
      have q1 : w7.cell? ⟨w5.heap.size, 1, none⟩ = some (.string ⟨r0.toArray⟩) := cellAt hLT.1 rfl
      have q2 : w7.cell? ⟨w5.heap.size, 2, none⟩ = some (.float .f64 b) := cellAt hLT.1 rfl
      have q3 : w7.cell? ⟨w5.heap.size, 3, none⟩ = some (.int .i64 ag) := cellAt hLT.1 rfl
      have qf : ∀ o, w7.frozen? ⟨w5.heap.size, o, none⟩ = false := fun o => frozen_of_row w7 _ o _ _ hLT.1
      have HLT := hide hLT.2
      clear hLT hT p0 p1 p2 p3 c2
      go_wp2
      go_roundg (Hw.cntIrr L M R5 * 20000 + E5.length)
      case measure => omega
      case rel => exact ⟨l1, r1, b1, ag1, ok1, _, rfl, rfl, HLT.out.2, HLT.out.1⟩
end Go.Proofs.YtfiebibpgbadlaaGreat
namespace Go.Proofs.YtfiebibpgbadlaaGreat
open Go.RowKit
set_option linter.unusedVariables false
set_option linter.unusedSimpArgs false

def bookBlock (L M : Nat) (sv rv : Value) : Obj := .cells #[.int .i64 L, .int .i64 M, sv, rv] 86 (0, 0)

theorem num_any (e : Int) (w : World) : Calls Tryz.prog 37 #[.int .i64 e] w fun r w' => r = .returned (.int .i64 e) ∧ w' = w := by
  go_enter Tryz.func37, Tryz.ntmps37
  go_wp2
  go_ret
  exact ⟨rfl, rfl⟩

theorem pnew_bad (l m : Int) (w : World) (h : l < 1 ∨ 3 < l ∨ m < 1 ∨ 6 < m) :
    Calls Tryz.prog 35 #[.int .i64 l, .int .i64 m] w fun e w' => e = .returned (.tuple #[.pointer none, .int .i64 1]) ∧ w' = w := by
  by_cases h1 : l < 1
  · go_enter Tryz.func35, Tryz.ntmps35
    go_wp2
    go_ret2
    exact ⟨rfl, rfl⟩
  · by_cases h2 : 3 < l
    · go_enter Tryz.func35, Tryz.ntmps35
      go_wp2
      go_ret2
      exact ⟨rfl, rfl⟩
    · by_cases h3 : m < 1
      · go_enter Tryz.func35, Tryz.ntmps35
        go_wp2
        go_ret2
        exact ⟨rfl, rfl⟩
      · have h4 : 6 < m := by omega
        go_enter Tryz.func35, Tryz.ntmps35
        go_wp2
        go_ret2
        exact ⟨rfl, rfl⟩

theorem pnew_any (L M : Nat) (w : World) (hL1 : 1 ≤ L) (hL3 : L ≤ 3) (hM1 : 1 ≤ M) (hM6 : M ≤ 6) :
    Calls Tryz.prog 35 #[.int .i64 (L : Int), .int .i64 (M : Int)] w fun e w' => e = .returned (.tuple #[.pointer (some ⟨w.heap.size, 0, none⟩), .int .i64 0]) ∧ w' = w.alloc (bookBlock L M (.slice none 0 0) (.slice none 0 0)) := by
  have b1 : decide ((L : Int) < 1) = false := by simp; omega
  have b2 : decide (3 < (L : Int)) = false := by simp; omega
  have b3 : decide ((M : Int) < 1) = false := by simp; omega
  have b4 : decide (6 < (M : Int)) = false := by simp; omega
  go_enter Tryz.func35, Tryz.ntmps35
  go_wp2
  go_ret2
  exact ⟨rfl, rfl⟩

theorem closed_any (w : World) (bb L : Nat) (hL1 : 1 ≤ L) (c0 : w.cell? ⟨bb, 0, none⟩ = some (.int .i64 L)) :
    Calls Tryz.prog 41 #[.pointer (some ⟨bb, 0, none⟩)] w fun e w' => e = .returned (.bool false) ∧ w' = w := by
  have h0 : ((L : Int) == 0) = false := by simp; omega
  go_enter Tryz.func41, Tryz.ntmps41
  go_wp2
  go_ret
  exact ⟨by simp, rfl⟩

theorem sclone_any (s : ByteArray) (w : World) (hs : s.size ≤ 6) :
    Calls Tryz.prog 32 #[.string s] w fun e w' => e = .returned (.string s) ∧ Below w.heap.size w w' := by
  go_enter Tryz.func32, Tryz.ntmps32
  go_wp2_with fail
  refine (Tryz.stringslite_Clone s _ (by omega)).mono ?_
  rintro e w1 ⟨rfl, hb⟩
  have HB := hide hb
  clear hb
  go_wp2
  go_ret
  exact ⟨rfl, HB.out⟩

/-- every text is a word. -/
def allW (L M : Nat) (ss : List ByteArray) : Bool := ss.all fun s => Hw.isWord L M s.data.toList
def errW (L M : Nat) (ss : List ByteArray) : Int := if allW L M ss = true then 0 else 2

theorem SameW.refl (w : World) : SameW w w := ⟨rfl, rfl, rfl, rfl⟩
theorem SameW.cell {a b : World} (h : SameW a b) {p : Addr} {v : Value} (hc : a.cell? p = some v) : b.cell? p = some v := (h.kept []).cell hc (by simp)

theorem allW_step {L M : Nat} {ss : List ByteArray} {k : Nat} (hk : k < ss.length) (ha : allW L M (ss.take k) = true) (h : Hw.isWord L M (ss[k]).data.toList = true) : allW L M (ss.take (k + 1)) = true := by
  unfold allW at *
  rw [List.take_succ_eq_append_getElem hk, List.all_append, ha]
  simpa using h
theorem errW_ok {L M : Nat} {ss : List ByteArray} {k : Nat} (hk : ¬ k < ss.length) (ha : allW L M (ss.take k) = true) : (0 : Int) = errW L M ss := by
  rw [List.take_of_length_le (by omega)] at ha
  simp [errW, ha]
theorem errW_no {L M : Nat} {ss : List ByteArray} {k : Nat} (hk : k < ss.length) (h : Hw.isWord L M (ss[k]).data.toList = false) : (2 : Int) = errW L M ss := by
  have : ¬ allW L M ss = true := by
    unfold allW
    intro ha
    rw [List.all_eq_true] at ha
    have := ha _ (List.getElem_mem hk)
    rw [h] at this; cases this
  simp [errW, this]

set_option maxHeartbeats 1600000 in
theorem check_any (w : World) (bb g L M : Nat) (sv rv : Value) (ss : List ByteArray) (hL1 : 1 ≤ L) (hL3 : L ≤ 3) (hM6 : M ≤ 6) (hn : ss.length ≤ 65536) (hs : ∀ s, s ∈ ss → s.size ≤ maxLen) (hb : w.heap[bb]? = some (bookBlock L M sv rv)) (hc : ∀ j s, ss[j]? = some s → w.cell? ⟨g, j, none⟩ = some (.string s)) :
    Calls Tryz.prog 31 #[.pointer (some ⟨bb, 0, none⟩), .slice (some ⟨g, 0, none⟩) ss.length ss.length] w fun e w' => e = .returned (.int .i64 (errW L M ss)) ∧ SameW w w' := by
  have c0 : w.cell? ⟨bb, 0, none⟩ = some (.int .i64 L) := cellAt hb rfl
  have c1 : w.cell? ⟨bb, 1, none⟩ = some (.int .i64 M) := cellAt hb rfl
  have HC := hide hc
  have HS := hide hs
  clear hc hs hb
  go_enter Tryz.func31, Tryz.ntmps31
  go_wp2_with fail
  refine (closed_any _ bb L hL1 c0).mono ?_
  rintro e w1 ⟨rfl, rfl⟩
  go_wp2_with fail
  go_loopw [11] (fun kt wr => ∃ k : Nat, k ≤ ss.length ∧ kt = .int .i64 (k : Int) ∧ SameW w1 wr ∧ Hid (allW L M (ss.take k) = true)) (fun kt _ => ss.length - (intOf kt).toNat)
  case atStart => exact ⟨0, Nat.zero_le _, rfl, SameW.refl _, by simp [Hid, allW]⟩
  case round =>
    obtain ⟨k, hk, rfl, hsw, hall⟩ := hrel
    by_cases hlt : k < ss.length
    · have d0 := hsw.cell c0
      have d1 := hsw.cell c1
      have d2 := hsw.cell (HC.out k ss[k] (List.getElem?_eq_getElem hlt))
      have hsz := HS.out ss[k] (List.getElem_mem hlt)
      generalize hsk : ss[k] = s at d2 hsz
      have HSW := hide hsw
      have HSK := hide hsk
      clear hsw hsk
      go_wp2
      go_region_held3 (fun w' => w'.cell? ⟨bb, 0, none⟩ = some (.int .i64 L) ∧ w'.cell? ⟨bb, 1, none⟩ = some (.int .i64 M)) (go_keep)
        (first | (go_at_call 52; refine (is_any s L M _ hsz hL1 hL3 hM6).mono ?_; rintro e w2 ⟨rfl, rfl⟩))
      all_goals
        cases hw : Hw.isWord L M s.data.toList with
        | true =>
          have HW := hide hw
          clear hw
          go_wp2
          go_roundw
          case rel => exact ⟨k + 1, by omega, by go_num, HSW.out.trans ⟨rfl, rfl, rfl, rfl⟩, allW_step hlt hall.out (by rw [HSK.out]; exact HW.out)⟩
          case measure => simp [intOf]; omega
        | false =>
          have HW := hide hw
          clear hw
          go_wp2
          go_ret
          exact ⟨ret_int (errW_no hlt (by rw [HSK.out]; exact HW.out)), HSW.out.trans ⟨rfl, rfl, rfl, rfl⟩⟩
    · go_wp2
      go_ret
      exact ⟨ret_int (errW_ok hlt hall.out), hsw⟩
end Go.Proofs.YtfiebibpgbadlaaGreat
