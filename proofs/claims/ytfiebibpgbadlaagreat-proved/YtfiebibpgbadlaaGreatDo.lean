import Derived.Test.YtfiebibpgbadlaaGreatDm
import Derived.LaidEqlPtr
import Derived.Lib.Builder
namespace Go.Proofs.YtfiebibpgbadlaaGreat
open Go.RowKit
set_option linter.unusedVariables false
set_option linter.unusedSimpArgs false
namespace Dr

theorem field0 (k : Nat) (l : Int) (w : World) : (Instr.field 150 (.agg #[.pointer (some ⟨k, 0, none⟩), .int .i64 l]) 0).run Tryz.prog w = .ok (.pointer (some ⟨k, 0, none⟩)) w := by kernel_rfl
theorem field1 (k : Nat) (l : Int) (w : World) : (Instr.field 150 (.agg #[.pointer (some ⟨k, 0, none⟩), .int .i64 l]) 1).run Tryz.prog w = .ok (.int .i64 l) w := by kernel_rfl

theorem low_of {base : Nat} {w w' : World} (h : base ≤ w.heap.size) (hb : Below w.heap.size w w') : Below base w w' := ⟨hb.os, hb.tape, hb.output, hb.size, fun j hj => hb.block j (by omega)⟩

theorem run_neq_ptr_other {P : Program} (w : World) {tp te : TypeId} {j : TypeInfo} {a b : Addr} {ca cb : Array Value} {ta tb : TypeId} (hp : P.underlying tp = some (.pointer te)) (hte : P.info? te = some j) (hsz : j.size ≠ 0)
    (hne : a ≠ b) (ha : w.heap[a.block]? = some (.cells ca ta (0, 0))) (hb : w.heap[b.block]? = some (.cells cb tb (0, 0))) :
    (binOp .neq tp (.pointer (some a)) (.pointer (some b))).run P w = .ok (.bool true) w := by
  have h : ∀ d : Nat, (Op.equalIn (d + 1) tp (.pointer (some a)) (.pointer (some b))).run P w = .ok false w := fun d => by
    simp [Op.equalIn, run_underlying hp, sizeOf, typeInfo, hte, hsz, run_sameAddr_other w hne ha hb]
  simp only [binOp]
  simp [Op.equal, Op.maxDepth, h 9999]
theorem infoKind : ∃ j, Tryz.prog.info? 153 = some j ∧ j.size ≠ 0 := by
  have h : (Tryz.prog.info? 153).map (fun i => i.size) = some 2 := by kernel_rfl
  cases e : Tryz.prog.info? 153 with
  | none => rw [e] at h; cases h
  | some j => rw [e] at h; simp at h; exact ⟨j, rfl, by omega⟩
theorem kind_neq {w : World} {base d bm L M pm qb : Nat} {lv iv : Value} {said : List Hw.Rl} {ls : List Hw.Ln} {P : Hw.Pl} {K : List KM} {Q ex : List Hw.Wd} {T : Nat} {x y : Hw.Wd} {k1 l1 k2 l2 : Nat} (h : DM w base d bm L M pm qb lv iv said ls P K Q) (hI : Hw.DI L M said ls P (kes K) Q ex T) (hx : P x = some (k1, l1)) (hy : P y = some (k2, l2)) (hk : k1 ≠ k2) :
    (binOp .neq 148 (.pointer (some ⟨k1, 0, none⟩)) (.pointer (some ⟨k2, 0, none⟩))).run Tryz.prog w = .ok (.bool true) w := by
  obtain ⟨j, hj, hj2⟩ := infoKind
  obtain ⟨A, hA, e1, _⟩ := hI.only x k1 l1 hx
  obtain ⟨B, hB, e2, _⟩ := hI.only y k2 l2 hy
  obtain ⟨A', hA', rfl⟩ := List.mem_map.1 hA
  obtain ⟨B', hB', rfl⟩ := List.mem_map.1 hB
  have b1 := (h.kd A' hA').blk
  have b2 := (h.kd B' hB').blk
  have e1' : A'.k = k1 := e1
  have e2' : B'.k = k2 := e2
  rw [e1'] at b1
  rw [e2'] at b2
  exact run_neq_ptr_other w Tryz.underlying148 hj hj2 (by simp [hk]) b1 b2
theorem kind_same (w : World) (k : Nat) : (binOp .neq 148 (.pointer (some ⟨k, 0, none⟩)) (.pointer (some ⟨k, 0, none⟩))).run Tryz.prog w = .ok (.bool false) w := by
  obtain ⟨j, hj, hj2⟩ := infoKind
  exact Lib.run_neq_ptr_same w _ Tryz.underlying148 hj

/-- What apart does: both words stand somewhere then, and it tells whether not in one kind. -/
def ApP (w w' : World) (base d bm L M pm qb : Nat) (iv : Value) (said : List Hw.Rl) (P : Hw.Pl) (K : List KM) (Q ex : List Hw.Wd) (T : Nat) (ls : List Hw.Ln) (x y : Hw.Wd) (e : Ending) : Prop :=
  ∃ (b : Bool) (k1 l1 k2 l2 : Nat) (lv' : Value) (ls' : List Hw.Ln) (P' : Hw.Pl) (K' : List KM), e = .returned (.bool b) ∧ (b = true ↔ k1 ≠ k2) ∧ DS w w' base d bm L M pm qb lv' iv said P ls' P' K' Q ex T ∧ P' x = some (k1, l1) ∧ P' y = some (k2, l2) ∧ (∀ y v, P y = some v → P' y = some v) ∧ (∀ A, A ∈ K → A ∈ K') ∧ Hw.Ext ls ls' 2

set_option maxRecDepth 20000 in
set_option maxHeartbeats 3200000 in
theorem apart_any (w : World) (base d bm L M pm qb : Nat) (lv iv : Value) (said : List Hw.Rl) (ls : List Hw.Ln) (P : Hw.Pl) (K : List KM) (Q ex : List Hw.Wd) (T : Nat) (x y : Hw.Wd) (hL3 : L ≤ 3) (hM6 : M ≤ 6) (hx : Hw.isWord L M x = true) (hy : Hw.isWord L M y = true) (hD : DM w base d bm L M pm qb lv iv said ls P K Q) (hI : Hw.DI L M said ls P (kes K) Q ex T) :
    Calls Tryz.prog 56 #[.pointer (some ⟨d, 0, none⟩), .string ⟨x.toArray⟩, .string ⟨y.toArray⟩] w fun e w' => ApP w w' base d bm L M pm qb iv said P K Q ex T ls x y e := by
  have HD := hide hD
  have HI := hide hI
  clear hD hI
  have hfld := field0
  go_enter Tryz.func56, Tryz.ntmps56
  go_wp2_with fail
  refine (at_any _ base d bm L M pm qb lv iv said ls P K Q ex T x hL3 hM6 hx HD.out HI.out).mono ?_
  rintro e w1 ⟨k1, l1, lv1, ls1, P1, K1, rfl, hs1, hp1, hm1, hk1, _, he1⟩
  have H1 := hide (And.intro hs1 (And.intro hp1 (And.intro hm1 (And.intro hk1 he1))))
  clear hs1 hp1 hm1 hk1 he1
  go_wp2_with fail
  refine (at_any _ base d bm L M pm qb _ iv said _ _ _ Q ex T y hL3 hM6 hy H1.out.1.dm H1.out.1.di).mono ?_
  rintro e w2 ⟨k2, l2, lv2, ls2, P2, K2, rfl, hs2, hp2, hm2, hk2, _, he2⟩
  have H2 := hide (And.intro hs2 (And.intro hp2 (And.intro hm2 (And.intro hk2 he2))))
  clear hs2 hp2 hm2 hk2 he2
  have HE : Hid (DS w w2 base d bm L M pm qb lv2 iv said P ls2 P2 K2 Q ex T ∧ P2 x = some (k1, l1) ∧ P2 y = some (k2, l2) ∧ (∀ y v, P y = some v → P2 y = some v) ∧ (∀ A, A ∈ K → A ∈ K2) ∧ Hw.Ext ls ls2 2) :=
    ⟨H1.out.1.trans H2.out.1, H2.out.2.2.1 _ _ H1.out.2.1, H2.out.2.1, fun z v hz => H2.out.2.2.1 _ _ (H1.out.2.2.1 _ _ hz), fun A hA => H2.out.2.2.2.1 _ (H1.out.2.2.2.1 _ hA), H1.out.2.2.2.2.trans H2.out.2.2.2.2⟩
  by_cases hk : k1 = k2
  · subst hk
    have hrn := kind_same w2 k1
    go_wp2
    go_ret
    exact ⟨false, k1, l1, k1, l2, lv2, ls2, P2, K2, by simp, by simp, HE.out⟩
  · have hrn := kind_neq HE.out.1.dm HE.out.1.di HE.out.2.1 HE.out.2.2.1 hk
    go_wp2
    go_ret
    exact ⟨true, k1, l1, k2, l2, lv2, ls2, P2, K2, by simp [hk], by simp [hk], HE.out⟩

set_option maxRecDepth 20000 in
set_option maxHeartbeats 3200000 in
theorem between_any (w : World) (base d bm L M pm qb : Nat) (lv iv : Value) (said : List Hw.Rl) (ls : List Hw.Ln) (P : Hw.Pl) (K : List KM) (Q : List Hw.Wd) (x y r : Hw.Wd) (k l1 l2 n : Nat) (hx6 : x.length ≤ 6) (hy6 : y.length ≤ 6) (hD : DMn w base d bm L M pm qb lv iv said ls P K Q n) (hf : ls.length ≤ 50000)
    (hx : P x = some (k, l1)) (hy : P y = some (k, l2)) (h1 : Hw.Says ls l1 x r) (h2 : Hw.Says ls l2 y r) :
    Calls Tryz.prog 62 #[.pointer (some ⟨d, 0, none⟩), .string ⟨x.toArray⟩, .string ⟨y.toArray⟩] w fun e w' => ∃ (c : Nat) (lv' : Value) (ls' : List Hw.Ln), e = .returned (.int .i64 (c : Int)) ∧ DMn w' base d bm L M pm qb lv' iv said ls' P K Q n ∧ Below base w w' ∧ Hw.Ext ls ls' 2 ∧ Hw.Says ls' c x y := by
  have HD := hide hD
  have HX := hide hx
  have HY := hide hy
  have H1 := hide h1
  have H2 := hide h2
  clear hD hx hy h1 h2
  go_enter Tryz.func62, Tryz.ntmps62
  go_wp2_with fail
  have hfld := field1
  go_region_with
    (first
      | (go_at_call 88; refine (meet_any base d bm L M pm qb said l1 l2 _ _ ls x r y H1.out H2.out HB2.out.1.sh hf HB2.out.1.size).mono ?_; rintro e w3 ⟨c, lv3, ls3, rfl, hs3, hy3⟩; have H3 := hide (And.intro hs3 hy3); clear hs3 hy3)
      | (have hh2 := HB1; clear hh2; go_at_call 85; refine (at_old _ base d bm L M pm qb lv iv said ls P K Q y k l2 n hy6 HB1.out.1 HY.out).mono ?_; rintro e w2 ⟨rfl, hb2⟩; have HB2 := hide (And.intro (HB1.out.1.below hb2) (HB1.out.2.trans (low_of HB1.out.1.size hb2))); clear hb2)
      | (go_at_call 85; refine (at_old _ base d bm L M pm qb lv iv said ls P K Q x k l1 n hx6 (by exact HD.out.same ⟨rfl, rfl, rfl, rfl⟩) HX.out).mono ?_; rintro e w1 ⟨rfl, hb1⟩; have HB1 := hide (And.intro ((HD.out.same (drew_same w)).below hb1) (low_of HD.out.size (below_trans (below_same (drew_same w)) hb1))); clear hb1))
  all_goals
    go_wp2
    go_ret
    obtain ⟨hd3, hl3⟩ := HB2.out.1.sheet H3.out.1
    exact ⟨c, lv3, ls3, rfl, hd3, HB2.out.2.trans hl3, H3.out.1.ext, H3.out.2⟩
end Dr
end Go.Proofs.YtfiebibpgbadlaaGreat
