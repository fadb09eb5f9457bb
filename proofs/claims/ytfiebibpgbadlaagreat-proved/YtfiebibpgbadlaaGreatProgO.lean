import Derived.Test.YtfiebibpgbadlaaGreatProgL
import Derived.Laws.StructEq
namespace Go.Proofs.YtfiebibpgbadlaaGreat
open Go.RowKit
set_option linter.unusedVariables false
set_option linter.unusedSimpArgs false

/-- while what two rules make of one word is let wait. -/
structure XI (w wr : World) (B sb qb M H : Nat) (rv : Value) (R E : List Hw.Rl) (r : Hw.Rl) (i : Nat) (E' : List Hw.Rl) : Prop where
  below : Below B w wr
  ss : SS wr B sb qb M rv R E'
  box : wr.heap[H]? = some (rbox r)
  len : E'.length ≤ E.length + 12 * i
  more : ∀ e, e ∈ E → e ∈ E'
  only : ∀ e, e ∈ E' → e ∈ E ∨ ∃ a, a ∈ R ∧ (Lap M r a 7 e ∨ Lap M a r 7 e)
  all : ∀ a, a ∈ R.take i → ∀ e, (Lap M r a 7 e ∨ Lap M a r 7 e) → e ∈ E'
  pk : PK qb w wr

theorem XI_start {w wr : World} {B sb qb L M H : Nat} {rv : Value} {said R0 R E : List Hw.Rl} {r : Hw.Rl} (h : RedI w wr B sb qb L M H rv said R0 R E r) : XI w wr B sb qb M H rv R E r 0 E :=
  ⟨h.a.below, h.a.ss, h.a.box, by omega, fun e he => he, fun e he => Or.inl he, by simp, h.a.pk⟩

theorem SS.ne_box {w : World} {B sb qb M H : Nat} {rv : Value} {R E : List Hw.Rl} {r : Hw.Rl} (h : SS w B sb qb M rv R E) (hb : w.heap[H]? = some (rbox r)) : H ≠ sb ∧ H ≠ qb := by
  obtain ⟨ag, iv, items, s1, s2, s3⟩ := h.st
  constructor
  · rintro rfl; rw [s1] at hb; simp [sblock, rbox] at hb
  · rintro rfl; rw [s2.blk] at hb; simp [rbox] at hb

theorem cross_keep {W w1 : World} {B sb qb M k : Nat} {rv : Value} {R E E2 : List Hw.Rl} {a b c : Hw.Rl} (hS : SS W B sb qb M rv R E) (hc : CrossI W w1 B sb qb M rv R E a b 7 E2) (hk : W.heap[k]? = some (rbox c)) : w1.heap[k]? = some (rbox c) :=
  hc.sf.blk k _ hk (hS.ne_box hk).1 (hS.ne_box hk).2 (by simp) (by intro c fr e; simp [rbox] at e)

theorem XI.at {w wr : World} {B sb qb M H i : Nat} {rv : Value} {R E E1 : List Hw.Rl} {r : Hw.Rl} (h : XI w wr B sb qb M H rv R E r i E1) (o : Obj) : SS (wr.alloc o) B sb qb M rv R E1 :=
  h.ss.below ((Below.refl _ _).alloc (Nat.le_refl _) _)

theorem XI.one {w wr w1 : World} {B sb qb M H i : Nat} {rv : Value} {R E E1 E2 : List Hw.Rl} {r a : Hw.Rl} (h : XI w wr B sb qb M H rv R E r i E1) (o : Obj) (hi : i < R.length) (hft : R[i] = a) (har : a = r) (hc : CrossI (wr.alloc o) w1 B sb qb M rv R E1 r a 7 E2) : XI w w1 B sb qb M H rv R E r (i + 1) E2 := by
  have hS := h.at o
  have hB : Below B w (wr.alloc o) := h.below.alloc h.ss.size o
  refine ⟨hB.trans hc.below, hc.ss, cross_keep hS hc ((Below.heap_alloc _ _ _ (lt_of_block h.box)).trans h.box), by have := hc.len; have := h.len; omega, fun e he => hc.more e (h.more e he), ?_, ?_, (h.pk.trans (PK.of_below ((Below.refl _ _).alloc (Nat.le_refl _) _) h.ss.qlt)).trans hc.sf.pk⟩
  · intro e he
    rcases hc.only e he with he | he
    · exact h.only e he
    · exact Or.inr ⟨a, by rw [← hft]; exact List.getElem_mem hi, Or.inl he⟩
  · intro b hb e he
    rw [take_mem_succ hi, hft] at hb
    rcases hb with hb | rfl
    · exact hc.more e (h.all b hb e he)
    · subst har; exact hc.all e (by rcases he with he | he <;> exact he)

theorem XI.two {w wr w1 w2 : World} {B sb qb M H i : Nat} {rv : Value} {R E E1 E2 E3 : List Hw.Rl} {r a : Hw.Rl} (h : XI w wr B sb qb M H rv R E r i E1) (o : Obj) (hi : i < R.length) (hft : R[i] = a) (hc : CrossI (wr.alloc o) w1 B sb qb M rv R E1 r a 7 E2) (hd : CrossI w1 w2 B sb qb M rv R E2 a r 7 E3) : XI w w2 B sb qb M H rv R E r (i + 1) E3 := by
  have hS := h.at o
  have hB : Below B w (wr.alloc o) := h.below.alloc h.ss.size o
  refine ⟨(hB.trans hc.below).trans hd.below, hd.ss, cross_keep hc.ss hd (cross_keep hS hc ((Below.heap_alloc _ _ _ (lt_of_block h.box)).trans h.box)), by have := hc.len; have := hd.len; have := h.len; omega, fun e he => hd.more e (hc.more e (h.more e he)), ?_, ?_, ((h.pk.trans (PK.of_below ((Below.refl _ _).alloc (Nat.le_refl _) _) h.ss.qlt)).trans hc.sf.pk).trans hd.sf.pk⟩
  · intro e he
    have ha : a ∈ R := by rw [← hft]; exact List.getElem_mem hi
    rcases hd.only e he with he | he
    · rcases hc.only e he with he | he
      · exact h.only e he
      · exact Or.inr ⟨a, ha, Or.inl he⟩
    · exact Or.inr ⟨a, ha, Or.inr he⟩
  · intro b hb e he
    rw [take_mem_succ hi, hft] at hb
    rcases hb with hb | rfl
    · exact hd.more e (hc.more e (h.all b hb e he))
    · rcases he with he | he
      · exact hd.more e (hc.all e he)
      · exact hd.all e he

theorem XI.end {w wr : World} {B sb qb L M H i : Nat} {rv : Value} {said R E E' : List Hw.Rl} {r : Hw.Rl} (hL1 : 1 ≤ L) (hL3 : L ≤ 3) (hM6 : M ≤ 6) (h : XI w wr B sb qb M H rv R E r i E') (hi : i = R.length) (hr : r ∈ R) (huniq : ∀ a, a ∈ R → a.1 = r.1 → a = r) (hInv : Hw.Inv L M said R E (fun x => x = r.1)) :
    Hw.Inv L M said R E' (fun _ => False) := by
  subst hi
  have hall := h.all
  rw [List.take_of_length_le (Nat.le_refl _)] at hall
  refine Hw.Inv.cross hL1 hL3 hInv h.more ?_ ?_
  · intro e he
    rcases h.only e he with he | ⟨a, ha, he | he⟩
    · exact Or.inl he
    · obtain ⟨p, o, q, h1, h2, _, _, _, h3, _, h4⟩ := he
      exact Or.inr ⟨r, a, hr, ha, p, o, q, h1, h2, h3, h4⟩
    · obtain ⟨p, o, q, h1, h2, _, _, _, h3, _, h4⟩ := he
      exact Or.inr ⟨a, r, ha, hr, p, o, q, h1, h2, h3, h4⟩
  · intro a b ha hb hab p o q h1 h2 hp ho hq hl
    have hol : o.length < 7 := by simp at hl; omega
    rcases hab with e | e
    · have := huniq a ha e; subst this
      exact hall b hb _ (Or.inl ⟨p, o, q, h1, h2, hp, ho, hq, hl, hol, rfl⟩)
    · have := huniq b hb e; subst this
      exact hall a ha _ (Or.inr ⟨p, o, q, h1, h2, hp, ho, hq, hl, hol, rfl⟩)

theorem red_uniq {w wr : World} {B sb qb L M H : Nat} {rv : Value} {said R0 R E : List Hw.Rl} {r : Hw.Rl} (h : RedI w wr B sb qb L M H rv said R0 R E r) (hr : r ∈ R0) : r ∈ R ∧ ∀ a, a ∈ R → a.1 = r.1 → a = r := by
  have hu : ∀ a, a ∈ R → a.1 = r.1 → a = r := fun a ha e => Prod.ext e (h.same a ha e)
  have h1 : r.1 ∈ R.map Prod.fst := by rw [h.fst]; exact List.mem_map_of_mem hr
  obtain ⟨a, ha, e⟩ := List.mem_map.1 h1
  exact ⟨hu a ha e ▸ ha, hu⟩

theorem rule_new1 (w : World) (f t : Hw.Wd) (ty : TypeId) : ∀ j x, [Value.string ⟨f.toArray⟩, Value.string ⟨t.toArray⟩][j]? = some x → (((w.alloc (.cells #[Value.string ⟨f.toArray⟩, Value.string ⟨t.toArray⟩] ty))).drew).cell? ((⟨w.heap.size, 0, none⟩ : Addr).add j) = some x := by
  intro j x hj
  have hadd : (⟨w.heap.size, 0, none⟩ : Addr).add j = ⟨w.heap.size, j, none⟩ := by unfold Addr.add; split <;> simp_all
  rw [hadd]
  show (w.alloc _).cell? _ = _
  rw [cell_of_row _ _ j _ _ _ (heap_alloc_new w _)]
  simpa using hj

theorem add_box {w w2 : World} {B sb qb M cap : Nat} {sa : Option Addr} {R E : List Hw.Rl} (hS : SS w B sb qb M (.slice sa R.length cap) R E) (r : Hw.Rl) (hsf : SF sb qb (Value.slice sa R.length cap).ownBlock (w.alloc (rbox r)) w2) :
    w2.heap[w.heap.size]? = some (rbox r) ∧ ∀ k n, (Value.slice sa n cap).ownBlock = some k → k ≠ w.heap.size := by
  obtain ⟨ag, iv, items, s1, s2, s3⟩ := hS.st
  have l1 := lt_of_block s1
  have l2 := lt_of_block s2.blk
  have hown : ∀ k n, (Value.slice sa n cap).ownBlock = some k → k ≠ w.heap.size := by
    intro k n hk
    rcases hS.rul.2 with ⟨h1, _⟩ | ⟨g, cap2, cur, h1, hb2, hg, _⟩
    · simp only [Value.slice.injEq] at h1; obtain ⟨rfl, _⟩ := h1; simp [Value.ownBlock] at hk
    · simp only [Value.slice.injEq] at h1; obtain ⟨rfl, _⟩ := h1; simp [Value.ownBlock] at hk; subst hk
      have := lt_of_block hg; omega
  refine ⟨hsf.blk _ _ (heap_alloc_new w (rbox r)) (by omega) (by omega) (fun e => hown _ _ e.symm rfl) (by intro c fr e; simp [rbox] at e), hown⟩

theorem add_math {L M : Nat} (hL1 : 1 ≤ L) (hL3 : L ≤ 3) {said R Ep E E1 : List Hw.Rl} {p : Hw.Rl} {l r X t : Hw.Wd} (hInv : Hw.Inv L M said R Ep (fun _ => False)) (hp : p ∈ Ep) (hp1 : ∀ e, e ∈ Ep → e = p ∨ e ∈ E) (hp2 : ∀ e, e ∈ E → e ∈ Ep) (hl : Hw.NF R p.1 l) (hr : Hw.NF R p.2 r)
    (hX : (X = l ∧ t = r) ∨ (X = r ∧ t = l)) (hlt : Hw.fold L t < Hw.fold L X) (hXw : Hw.isWord L M X = true) (hmem : ∀ e, e ∈ E1 ↔ e ∈ E ∨ (e ∈ R ∧ Hw.Occ X e.1)) :
    Hw.Inv L M said (keptL X R R.length ++ [(X, t)]) E1 (fun x => x = X) ∧ Hw.Irr (keptL X R R.length ++ [(X, t)]) t ∧ Hw.cntIrr L M (keptL X R R.length ++ [(X, t)]) < Hw.cntIrr L M R ∧ (∀ a, a ∈ keptL X R R.length ++ [(X, t)] → a.1 = X → a.2 = t) := by
  have h := Hw.Inv.add hL1 hL3 (E1 := E1) (R1 := keptL X R R.length) hInv hp hl hr hX hlt (mem_kept X R) (apart_kept X hInv.apart)
    (fun e he => (hp1 e he).imp id (fun h => (hmem e).2 (Or.inl h))) (fun e he => ((hmem e).1 he).imp (hp2 e) And.left) (fun a ha ho => (hmem a).2 (Or.inr ⟨ha, ho⟩))
  refine ⟨h.1, h.2.1, Hw.cnt_add (mem_kept X R) h.2.2 ((Hw.mem_upTo hL3 M X).2 hXw), ?_⟩
  intro a ha hx
  rcases List.mem_append.1 ha with ha | ha
  · exact absurd ⟨[], [], by simp [hx]⟩ ((mem_kept X R a).1 ha).2
  · rw [List.mem_singleton] at ha; rw [ha]

theorem below_call {wr W w5 : World} (o : Obj) (h : SameW (wr.alloc o) W) (hb : Below W.heap.size W w5) : Below wr.heap.size wr w5 :=
  have hK : Kept [] wr w5 := (((Kept.refl [] wr).alloc o).trans (h.kept [])).trans (Kept.of_below_size hb)
  hK.below (Nat.le_refl _) (by simp)

theorem red_box {wr W w5 : World} (f t : Hw.Wd) (h : SameW (wr.alloc (rbox (f, t))) W) (hb : Below W.heap.size W w5) : w5.cell? ⟨wr.heap.size, 1, none⟩ = some (.string ⟨t.toArray⟩) := by
  have h1 : W.heap[wr.heap.size]? = some (rbox (f, t)) := by rw [h.1]; exact heap_alloc_new wr _
  exact cellAt ((hb.block _ (lt_of_block h1)).trans h1) rfl

theorem set_other {w : World} {g j k b : Nat} {u v : Value} (h : w.cell? ⟨b, k, none⟩ = some v) (hn : b ≠ g) : (w.setCell ⟨g, j, none⟩ u).cell? ⟨b, k, none⟩ = some v :=
  ((Kept.refl [g] w).setCell (Or.inl (by simp)) _).cell h (by simpa using hn)

theorem RulesAt.call {wr W : World} {B : Nat} {rv : Value} {R : List Hw.Rl} (h : RulesAt wr B rv R) (o : Obj) (hs : SameW (wr.alloc o) W) : RulesAt W B rv R :=
  h.kept (((Kept.refl [] wr).alloc o).trans (hs.kept [])) (by simp)

set_option maxRecDepth 100000 in
set_option maxHeartbeats 6400000 in
theorem add_any (w : World) (B sb qb L M : Nat) (rv : Value) (said R Ep E : List Hw.Rl) (p : Hw.Rl) (l r X t : Hw.Wd) (hL1 : 1 ≤ L) (hL3 : L ≤ 3) (hM6 : M ≤ 6) (hRl : R.length + Hw.cntIrr L M R ≤ 1093) (hEl : E.length ≤ 100000000)
    (hInv : Hw.Inv L M said R Ep (fun _ => False)) (hp : p ∈ Ep) (hp1 : ∀ e, e ∈ Ep → e = p ∨ e ∈ E) (hp2 : ∀ e, e ∈ E → e ∈ Ep) (hl : Hw.NF R p.1 l) (hr : Hw.NF R p.2 r) (hX : (X = l ∧ t = r) ∨ (X = r ∧ t = l)) (hlt : Hw.fold L t < Hw.fold L X)
    (hS : SS w B sb qb M rv R E) :
    Calls Tryz.prog 101 #[.pointer (some ⟨sb, 0, none⟩), .agg #[.string ⟨X.toArray⟩, .string ⟨t.toArray⟩]] w fun e w' => e = .returned (.tuple #[]) ∧ (Below B w w' ∧ PK qb w w') ∧ ∃ rv' R' E', SS w' B sb qb M rv' R' E' ∧ Hw.Inv L M said R' E' (fun _ => False) ∧ Hw.cntIrr L M R' < Hw.cntIrr L M R ∧ R'.length ≤ R.length + 1 ∧ E'.length ≤ E.length + 15000 ∧ Hw.ToIrr R' := by
  obtain ⟨sa, cap, rfl⟩ := hS.rul.shape
  have hXw : Hw.isWord L M X = true ∧ Hw.isWord L M t = true := by
    obtain ⟨hw1, hw2, _⟩ := hInv.pend p hp
    have okl := hl.1.less hL1 hL3 hInv.rules (Hw.isWord_ok hw1)
    have okr := hr.1.less hL1 hL3 hInv.rules (Hw.isWord_ok hw2)
    have wl := Hw.isWord_of_le hL3 okl.1 hw1 okl.2
    have wr := Hw.isWord_of_le hL3 okr.1 hw2 okr.2
    rcases hX with ⟨rfl, rfl⟩ | ⟨rfl, rfl⟩ <;> exact ⟨by assumption, by assumption⟩
  have hX6 : X.length ≤ 6 := by have := Hw.isWord_len hXw.1; omega
  have ht6 : t.length ≤ X.length := Hw.length_le_of_fold hL3 (Hw.isWord_ok hXw.2) (Hw.isWord_ok hXw.1) (Nat.le_of_lt hlt)
  have hRules := hide hInv.rules
  have HXW := hide hXw
  have HInv := hide hInv
  have HS := hide hS
  have HL := hide hl
  have HRR := hide hr
  have HXX := hide hX
  have HP := hide hp
  have HP1 := hide hp1
  have HP2 := hide hp2
  have HLT := hide hlt
  clear hInv hS hl hr hX hp hp1 hp2 hXw hlt
  go_enter Tryz.func101, Tryz.ntmps101
  go_wp2_with fail
  refine (drop_any _ B sb qb L M cap sa R E X hM6 hRules.out (by omega) hX6 (by omega) (by exact HS.out.below ((Below.refl _ _).alloc (Nat.le_refl _) _))).mono ?_
  rintro e w2 ⟨rfl, E1, ⟨hb2, hsf2⟩, hS2, hlen2, hmem2⟩
  have hA := add_math hL1 hL3 HInv.out HP.out HP1.out HP2.out HL.out HRR.out HXX.out HLT.out HXW.out.1 hmem2
  have hbx2 := add_box HS.out (X, t) hsf2
  generalize hK : keptL X R R.length = K at *
  have hKl : K.length ≤ R.length := by rw [← hK]; exact (keptL_le X R R.length).2
  have HKK := hide hK
  have HA := hide hA
  have hE1 : E1.length ≤ E.length + R.length := by omega
  have HB2 := hide ((((Below.refl w.heap.size w).alloc (Nat.le_refl _) (rbox (X, t))).mono HS.out.size).trans hb2)
  have HPK := hide ((PK.of_below ((Below.refl _ _).alloc (Nat.le_refl _) (rbox (X, t))) HS.out.qlt).trans hsf2.pk)
  have HS2 := hide hS2
  have HBX := hide hbx2
  have c1 : w2.cell? ⟨sb, 1, none⟩ = some (.slice sa K.length cap) := by
    obtain ⟨ag, iv, items, h1, _⟩ := hS2.st
    exact cellAt h1 rfl
  have b0 : w2.cell? ⟨w.heap.size, 0, none⟩ = some (.string ⟨X.toArray⟩) := cellAt hbx2.1 rfl
  have b1 : w2.cell? ⟨w.heap.size, 1, none⟩ = some (.string ⟨t.toArray⟩) := cellAt hbx2.1 rfl
  have hHl : w.heap.size < w2.heap.size := lt_of_block hbx2.1
  have hsl : sb < w2.heap.size := by
    obtain ⟨ag, iv, items, h1, _⟩ := hS2.st
    exact lt_of_block h1
  have hB2s := hS2.size
  obtain ⟨i0, hi0, hz0, hz1, hz2⟩ := info_parts Tryz.infoRule
  have HI0 := hide hi0
  have HZ0 := hide hz0
  have HZ1 := hide hz1
  have HZ2 := hide hz2
  have c1a : ∀ o, (w2.alloc o).cell? ⟨sb, 1, none⟩ = some (.slice sa K.length cap) := fun o => ((Kept.refl [] w2).alloc o).cell c1 (by simp)
  have HOWN : Hid (∀ o1, ((w2.alloc o1).drew).ownsRow B 77 2 (.slice sa K.length cap) K.length (rcells K)) := fun o1 => hS2.rul.alloc o1
  clear hi0 hz0 hz1 hz2 hK hA hb2 hsf2 hS2 hmem2 hbx2 hlen2
  go_wp2
  go_region_law (refine step_append_exact rfl (.tmp 16) (.tmp 18) 68 rfl B 77 i0 (.agg #[.string ⟨#[]⟩, .string ⟨#[]⟩]) 2 32 Tryz.underlying68 HI0.out HZ0.out HZ1.out HZ2.out rfl (by decide) (.slice sa K.length cap) K.length (rcells K) (by simp [Act.eval, Act.put]) (by exact HOWN.out _) ⟨w2.heap.size, 0, none⟩ 1 1 [.string ⟨X.toArray⟩, .string ⟨t.toArray⟩] (by simp [Act.eval, Act.put]) rfl (by exact rule_new1 w2 X t _) (by intro u hu; simp at hu; rcases hu with rfl | rfl <;> rfl) (by unfold maxLen; omega) (by omega) (by simp; omega) ?_; intro v3 w3 hown hgrow hex; obtain ⟨g3, cap3, rfl⟩ := own_shape hown; have R3 := add_append (o := rbox (X, t)) (r := (X, t)) HB2.out HPK.out HS2.out HBX.out.1 (fun k hk => HBX.out.2 k _ hk) (by exact ⟨rfl, rfl, rfl, rfl⟩) hown hgrow hex; obtain ⟨⟨ag3, hs3⟩, hA3⟩ := R3; have k1 : w3.cell? ⟨sb, 1, none⟩ = some (.slice sa K.length cap) := cellAt hs3 rfl; have k2 := frozen_of_row w3 sb 1 _ _ hs3; have HA3 := hide hA3; clear hown hgrow hex hs3 hA3)
  all_goals
    have H0 : Hid (RedI w _ B sb qb L M w.heap.size (.slice (some ⟨g3, 0, none⟩) (K.length + 1) cap3) said (K ++ [(X, t)]) (K ++ [(X, t)]) E1 (X, t)) := ⟨HA3.out, HA.out.1, rfl, HA.out.2.2.2⟩
    clear k1 k2 HA3
    have k3 : (w3.setCell ⟨sb, 1, none⟩ (.slice (some ⟨g3, 0, none⟩) (K.length + 1) cap3)).cell? ⟨sb, 1, none⟩ = some (.slice (some ⟨g3, 0, none⟩) (K.length + 1) cap3) := by
      obtain ⟨ag, iv, items, h1, _⟩ := H0.out.a.ss.st
      exact cellAt h1 rfl
    generalize w3.setCell ⟨sb, 1, none⟩ (.slice (some ⟨g3, 0, none⟩) (K.length + 1) cap3) = w4 at *
    go_wp2
    clear k3
    go_loopw [27] (fun kt wr => ∃ (i : Nat) (R2 : List Hw.Rl), i ≤ K.length + 1 ∧ kt = .int .i64 (i : Int) ∧ RedI w wr B sb qb L M w.heap.size (.slice (some ⟨g3, 0, none⟩) (K.length + 1) cap3) said (K ++ [(X, t)]) R2 E1 (X, t) ∧ Hw.ToTo R2 i) (fun kt _ => K.length + 1 - (intOf kt).toNat)
    case atStart => exact ⟨0, _, Nat.zero_le _, rfl, H0.out, Hw.ToTo.zero _⟩
    case round =>
      clear H0
      obtain ⟨i, R2, hi, rfl, hI, hTT⟩ := hrel
      have HTT := hide hTT
      clear hTT
      have hR2 : R2.length = K.length + 1 := by have := congrArg List.length hI.fst; simpa using this
      by_cases hlt : i < K.length + 1
      · obtain ⟨g, cap', cur, hrv, hgB, hgg, d0, d1⟩ := hI.a.ss.rul.read (i := i) (by omega)
        simp only [Value.slice.injEq, Option.some.injEq, Addr.mk.injEq] at hrv
        obtain ⟨⟨rfl, -, -⟩, -, rfl⟩ := hrv
        obtain ⟨m, hm⟩ := hI.a.ss.mx
        obtain ⟨⟨f, tt⟩, hft⟩ : ∃ p, R2[i]'(by omega) = p := ⟨_, rfl⟩
        rw [hft] at d0 d1
        obtain ⟨ag, iv, items, s1, _⟩ := hI.a.ss.st
        have c1 : wr.cell? ⟨sb, 1, none⟩ = some (.slice (some ⟨g3, 0, none⟩) (K.length + 1) cap3) := cellAt s1 rfl
        have hgl : g3 < wr.heap.size := lt_of_block hgg
        have hsl2 : sb < wr.heap.size := lt_of_block s1
        have HI := hide hI
        have HFT := hide hft
        have HGG := hide hgg
        have hn1 : sb ≠ g3 := by rintro rfl; rw [s1] at hgg; simp [sblock] at hgg
        have hn2 : wr.heap.size ≠ g3 := by omega
        clear hI hft s1 hgg
        have hmem : (f, tt) ∈ R2 := by rw [← HFT.out]; exact List.getElem_mem _
        have htw := hide (HI.out.inv.rules.to_ _ hmem)
        clear hmem
        go_wp2
        go_region_held3 (fun w' => w'.cell? ⟨sb, 1, none⟩ = some (.slice (some ⟨g3, 0, none⟩) (K.length + 1) cap3) ∧ w'.cell? ⟨wr.heap.size, 1, none⟩ = some (.string ⟨tt.toArray⟩)) (first | (go_keep) | (exact ⟨set_other (by assumption) hn1, set_other (by assumption) hn2⟩))
          (first | (go_at_call 33; refine (turn_any tt R2 L M B _ _ m hL1 hL3 hM6 htw.out HI.out.inv.rules (by omega) (by exact HI.out.a.ss.rul.call (rbox (f, tt)) ⟨rfl, rfl, rfl, rfl⟩) (by exact ((Kept.refl [] wr).alloc _).cell hm (by simp))).mono ?_; rintro e w5 ⟨n5, rfl, hnf, hb5⟩; have hb6 : Below wr.heap.size wr w5 := below_call (rbox (f, tt)) (by exact ⟨rfl, rfl, rfl, rfl⟩) hb5; have hg5 := (hb6.block g3 hgl).trans HGG.out; have k1 : w5.cell? ⟨sb, 1, none⟩ = some (.slice (some ⟨g3, 0, none⟩) (K.length + 1) cap3) := (hb6.cell (p := ⟨sb, 1, none⟩) hsl2).trans c1; have k4 := frozen_of_row w5 g3 (i * 2 + 1) _ _ hg5; have k6 : w5.cell? ⟨g3, i * 2 + 1, none⟩ = some (.string ⟨tt.toArray⟩) := (hb6.cell (p := ⟨g3, i * 2 + 1, none⟩) hgl).trans d1; have k5 : w5.cell? ⟨wr.heap.size, 1, none⟩ = some (.string ⟨tt.toArray⟩) := red_box f tt (by exact ⟨rfl, rfl, rfl, rfl⟩) hb5; have HNF := hide hnf; have HB6 := hide hb6; clear hnf hb5 hb6 hg5))
        have R1 := hide (And.intro (red_step hL1 hL3 HI.out HA.out.2.1 (i := i) (by omega) (t' := n5) (by rw [HFT.out]; exact HNF.out) HB6.out) (HTT.out.step (by omega) HNF.out.2))
        clear k1 k4 k5 k6
        go_wp2
        go_roundw
        case rel => exact ⟨i + 1, _, by omega, by go_num, R1.out.1, R1.out.2⟩
        case measure => simp [intOf]; omega
      · have HTO := hide (HTT.out.all (by omega))
        obtain ⟨ag, iv, items, s1, _⟩ := hI.a.ss.st
        have c1 : wr.cell? ⟨sb, 1, none⟩ = some (.slice (some ⟨g3, 0, none⟩) (K.length + 1) cap3) := cellAt s1 rfl
        have H0 := hide (XI_start hI)
        have HI := hide hI
        clear hI s1
        go_wp2
        clear c1
        go_loopw [52] (fun kt wr => ∃ (i : Nat) (E2 : List Hw.Rl), i ≤ K.length + 1 ∧ kt = .int .i64 (i : Int) ∧ XI w wr B sb qb M w.heap.size (.slice (some ⟨g3, 0, none⟩) (K.length + 1) cap3) R2 E1 (X, t) i E2) (fun kt _ => K.length + 1 - (intOf kt).toNat)
        case atStart => exact ⟨0, _, Nat.zero_le _, rfl, H0.out⟩
        case round =>
          clear H0
          obtain ⟨i, E2, hi, rfl, hX⟩ := hrel
          by_cases hlt : i < K.length + 1
          · obtain ⟨g, cap', cur, hrv, hgB, hgg, d0, d1⟩ := hX.ss.rul.read (i := i) (by omega)
            simp only [Value.slice.injEq, Option.some.injEq, Addr.mk.injEq] at hrv
            obtain ⟨⟨rfl, -, -⟩, -, rfl⟩ := hrv
            obtain ⟨⟨f, tt⟩, hft⟩ : ∃ p, R2[i]'(by omega) = p := ⟨_, rfl⟩
            rw [hft] at d0 d1
            have b0 : wr.cell? ⟨w.heap.size, 0, none⟩ = some (.string ⟨X.toArray⟩) := cellAt hX.box rfl
            have b1 : wr.cell? ⟨w.heap.size, 1, none⟩ = some (.string ⟨t.toArray⟩) := cellAt hX.box rfl
            have hbl : w.heap.size < wr.heap.size := lt_of_block hX.box
            have hgl : g3 < wr.heap.size := lt_of_block hgg
            have hmem : (f, tt) ∈ R2 := by rw [← hft]; exact List.getElem_mem _
            have HXI := hide hX
            have HFT := hide hft
            have HMEM := hide hmem
            clear hX hft hgg hmem
            have hro := HI.out.inv.rules
            have hfl : f.length ≤ 6 := by have := Hw.isWord_len (hro.from_ _ HMEM.out); simp only at this; omega
            have htl : tt.length ≤ f.length := Hw.length_le_of_fold hL3 (Hw.isWord_ok (hro.to_ _ HMEM.out)) (Hw.isWord_ok (hro.from_ _ HMEM.out)) (Nat.le_of_lt (hro.less _ HMEM.out))
            have hE2 := HXI.out.len
            clear hro
            go_wp2_with fail
            refine (cross_any _ B sb qb M _ R2 E2 (X, t) (f, tt) hX6 ht6 hfl htl hM6 (by omega) (by exact HXI.out.at _)).mono ?_
            rintro e w5 ⟨rfl, E5, hC⟩
            have bx := cross_keep (HXI.out.at _) hC ((Below.heap_alloc _ _ _ (lt_of_block HXI.out.box)).trans HXI.out.box)
            have by_ := cross_keep (HXI.out.at _) hC (c := (f, tt)) (heap_alloc_new wr _)
            have b0 : w5.cell? ⟨w.heap.size, 0, none⟩ = some (.string ⟨X.toArray⟩) := cellAt bx rfl
            have b1 : w5.cell? ⟨w.heap.size, 1, none⟩ = some (.string ⟨t.toArray⟩) := cellAt bx rfl
            have b2 : w5.cell? ⟨wr.heap.size, 0, none⟩ = some (.string ⟨f.toArray⟩) := cellAt by_ rfl
            have b3 : w5.cell? ⟨wr.heap.size, 1, none⟩ = some (.string ⟨tt.toArray⟩) := cellAt by_ rfl
            have hE5 := hC.len
            have HC := hide hC
            clear bx by_ hC
            by_cases hfx : X = f
            · subst hfx
              by_cases htt : t = tt
              · subst htt
                go_wp2_with fail
                go_roundw
                case rel => exact ⟨i + 1, E5, by omega, by go_num, XI.one HXI.out _ (by omega) HFT.out rfl HC.out⟩
                case measure => simp [intOf]; omega
              · have htt' : ¬ tt = t := fun h => htt h.symm
                go_wp2_with fail
                refine (cross_any _ B sb qb M _ R2 E5 (X, tt) (X, t) hfl htl hX6 ht6 hM6 (by omega) (by exact HC.out.ss)).mono ?_
                rintro e w6 ⟨rfl, E6, hC6⟩
                have R1 := hide (XI.two HXI.out _ (by omega) HFT.out HC.out hC6)
                clear hC6
                go_wp2
                go_roundw
                case rel => exact ⟨i + 1, E6, by omega, by go_num, R1.out⟩
                case measure => simp [intOf]; omega
            · have hfx' : ¬ f = X := fun h => hfx h.symm
              go_wp2_with fail
              refine (cross_any _ B sb qb M _ R2 E5 (f, tt) (X, t) hfl htl hX6 ht6 hM6 (by omega) (by exact HC.out.ss)).mono ?_
              rintro e w6 ⟨rfl, E6, hC6⟩
              have R1 := hide (XI.two HXI.out _ (by omega) HFT.out HC.out hC6)
              clear hC6
              go_wp2
              go_roundw
              case rel => exact ⟨i + 1, E6, by omega, by go_num, R1.out⟩
              case measure => simp [intOf]; omega
          · have hiR : i = K.length + 1 := by omega
            have hE2 := hX.len
            have hu := red_uniq HI.out (List.mem_append_right _ (List.mem_singleton_self _))
            have hc := Hw.cntIrr_fst (L := L) (M := M) HI.out.fst
            have hc2 := HA.out.2.2.1
            have R1 := hide (And.intro (And.intro hX.below hX.pk) (And.intro hX.ss (XI.end hL1 hL3 hM6 hX (hiR.trans hR2.symm) hu.1 hu.2 HI.out.inv)))
            clear hX
            go_wp2
            go_end0
            exact ⟨rfl, R1.out.1, _, R2, E2, R1.out.2.1, R1.out.2.2, by omega, by omega, by omega, HTO.out⟩
end Go.Proofs.YtfiebibpgbadlaaGreat
