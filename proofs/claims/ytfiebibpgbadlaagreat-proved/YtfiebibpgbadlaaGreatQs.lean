import Derived.Test.YtfiebibpgbadlaaGreatProgF
import Derived.Test.YtfiebibpgbadlaaGreatRefE
import Derived.Test.YtfiebibpgbadlaaGreatMe
namespace Go.Proofs.YtfiebibpgbadlaaGreat
open Go.RowKit
set_option linter.unusedVariables false
set_option linter.unusedSimpArgs false

/-- Words, as cells. -/
def scells (ws : List Hw.Wd) : List Value := ws.map fun s => Value.string ⟨s.toArray⟩
theorem length_scells (ws : List Hw.Wd) : (scells ws).length = ws.length := by simp [scells]
theorem scells_at (ws : List Hw.Wd) (i : Nat) (h : i < ws.length) : (scells ws)[i]? = some (.string ⟨(ws[i]).toArray⟩) := by simp [scells, h]
theorem scells_one (ws : List Hw.Wd) : ∀ u ∈ scells ws, u.oneCell' = true := by
  intro u hu
  simp [scells] at hu
  obtain ⟨s, _, rfl⟩ := hu
  rfl
/-- Words, as a slice keeps them. -/
def StrsAt (w : World) (base : Nat) (v : Value) (ws : List Hw.Wd) : Prop := w.ownsRow base 9 1 v ws.length (scells ws)
theorem StrsAt.shape {w : World} {base : Nat} {v : Value} {ws : List Hw.Wd} (h : StrsAt w base v ws) : ∃ sa cap, v = .slice sa ws.length cap := by
  rcases h.2 with ⟨h1, h2⟩ | ⟨g, cap, cur, h1, _⟩
  · exact ⟨none, 0, by rw [h1, h2]⟩
  · exact ⟨_, _, h1⟩
theorem StrsAt.kept {w w' : World} {base : Nat} {v : Value} {ws : List Hw.Wd} {S : List Nat} (h : StrsAt w base v ws) (hK : Kept S w w') (hS : ∀ k, k ∈ S → v.ownBlock ≠ some k) : StrsAt w' base v ws := by
  refine ⟨h.1, ?_⟩
  rcases h.2 with h1 | ⟨g, cap, cur, rfl, hb, hg, r⟩
  · exact .inl h1
  · exact .inr ⟨g, cap, cur, rfl, hb, hK.at hg (fun hm => hS g hm rfl), r⟩
theorem StrsAt.read {w : World} {base : Nat} {v : Value} {ws : List Hw.Wd} (h : StrsAt w base v ws) (hp : 0 < ws.length) :
    ∃ g cap cur, v = .slice (some ⟨g, 0, none⟩) ws.length cap ∧ base ≤ g ∧ w.heap[g]? = some (.cells cur 9 (0, 0)) ∧ ws.length ≤ cap ∧ cap ≤ maxLen ∧ cur.size = cap ∧ cur.toList.take ws.length = scells ws := by
  rcases h.2 with ⟨h1, h2⟩ | ⟨g, cap, cur, h1, hb, hg, hn, hm, hsz, ht⟩
  · omega
  · exact ⟨g, cap, cur, h1, hb, hg, hn, hm, by omega, by simpa using ht⟩
theorem cell_word {w : World} {g : Nat} {cur : Array Value} {t : TypeId} {ws : List Hw.Wd} (hg : w.heap[g]? = some (.cells cur t (0, 0))) (ht : cur.toList.take ws.length = scells ws) {i : Nat} (hi : i < ws.length) : w.cell? ⟨g, i, none⟩ = some (.string ⟨(ws[i]).toArray⟩) := by
  have e := scells_at ws i hi
  rw [← ht, List.getElem?_take, if_pos (by omega)] at e
  rw [cell_of_row w g _ cur _ _ hg]
  simpa using e
theorem StrsAt.type {w : World} {base k : Nat} {v : Value} {ws : List Hw.Wd} (h : StrsAt w base v ws) (hk : v.ownBlock = some k) : base ≤ k ∧ ∃ cur, w.heap[k]? = some (.cells cur 9 (0, 0)) := by
  rcases h.2 with ⟨rfl, _⟩ | ⟨g, cap, cur, rfl, hb, hg, _⟩
  · simp [Value.ownBlock] at hk
  · simp [Value.ownBlock] at hk; subst hk; exact ⟨hb, cur, hg⟩

namespace Qs
def lessV : Value := .func (.func 83) #[] #[]
/-- Words that wait. -/
structure QAt (w : World) (base qb : Nat) (iv : Value) (ws : List Hw.Wd) : Prop where
  blk : w.heap[qb]? = some (.cells #[iv, .func (.func 83) #[] #[]] 158 (0, 0))
  own : StrsAt w base iv ws

theorem less_any (s t : ByteArray) (w : World) :
    Calls Tryz.prog 83 #[.string s, .string t] w fun e w' => ∃ b, e = .returned (.bool b) ∧ Below w.heap.size w w' := by
  go_enter Tryz.func83, Tryz.ntmps83
  go_wp2_with fail
  refine (compare_any s t _).mono ?_
  rintro e w1 ⟨rfl, o, rfl⟩
  go_wp2
  go_ret
  exact ⟨_, rfl, (Below.refl _ _).alloc (Nat.le_refl _) _⟩

theorem qnew_any (w : World) :
    Calls Tryz.prog 84 #[.func (.func 83) #[] #[]] w fun e w' => e = .returned (.pointer (some ⟨w.heap.size, 0, none⟩)) ∧ w' = w.alloc (.cells #[.slice none 0 0, .func (.func 83) #[] #[]] 158) := by
  go_enter Tryz.func84, Tryz.ntmps84
  go_wp2
  go_ret
  exact ⟨rfl, rfl⟩

set_option maxRecDepth 100000 in
set_option maxHeartbeats 3200000 in
theorem swap_walk (w : World) (qb g n cap i j : Nat) (l1 l2 : ByteArray) (hn : n ≤ 1000000000) (hi : i < n) (hj : j < n) (hij : i ≠ j)
    (c0 : w.cell? ⟨qb, 0, none⟩ = some (.slice (some ⟨g, 0, none⟩) n cap)) (hq : qb ≠ g)
    (p0 : w.cell? ⟨g, i, none⟩ = some (.string l1)) (q0 : w.cell? ⟨g, j, none⟩ = some (.string l2)) (hfz : ∀ o, w.frozen? ⟨g, o, none⟩ = false) :
    Calls Tryz.prog 113 #[.pointer (some ⟨qb, 0, none⟩), .int .i64 (i : Int), .int .i64 (j : Int)] w fun e w' => e = .returned (.tuple #[]) ∧ SameW ((w.setCell ⟨g, i, none⟩ (.string l2)).setCell ⟨g, j, none⟩ (.string l1)) w' := by
  have hiI : (i : Int) < (n : Int) := by omega
  have hjI : (j : Int) < (n : Int) := by omega
  go_enter Tryz.func113, Tryz.ntmps113
  go_wp2
  go_region
  all_goals go_end0
  all_goals exact ⟨rfl, drew_same _⟩

def swapL (R : List Hw.Wd) (i j : Nat) (hi : i < R.length) (hj : j < R.length) : List Hw.Wd := (R.set i R[j]).set j R[i]
theorem mem_swapL (R : List Hw.Wd) (i j : Nat) (hi : i < R.length) (hj : j < R.length) (e : Hw.Wd) : e ∈ swapL R i j hi hj ↔ e ∈ R := by
  unfold swapL
  constructor
  · intro h
    rcases List.mem_or_eq_of_mem_set h with h | rfl
    · rcases List.mem_or_eq_of_mem_set h with h | rfl
      · exact h
      · exact List.getElem_mem hj
    · exact List.getElem_mem hi
  · intro h
    obtain ⟨k, hk, rfl⟩ := List.getElem_of_mem h
    rw [List.mem_iff_getElem]
    by_cases hkj : k = j
    · subst hkj
      by_cases hik : i = k
      · subst hik
        exact ⟨i, by simpa using hk, by simp⟩
      · refine ⟨i, by simpa using hi, ?_⟩
        rw [List.getElem_set_ne (by omega), List.getElem_set_self]
    · by_cases hki : k = i
      · subst hki
        exact ⟨j, by simpa using hj, by simp⟩
      · refine ⟨k, by simpa using hk, ?_⟩
        rw [List.getElem_set_ne (by omega), List.getElem_set_ne (by omega)]
theorem scells_set (ws : List Hw.Wd) (i : Nat) (s : Hw.Wd) : (scells ws).set i (.string ⟨s.toArray⟩) = scells (ws.set i s) := by simp [scells]
theorem row_set {w : World} {g k : Nat} {cur : Array Value} {t : TypeId} {ws : List Hw.Wd} (s : Hw.Wd) (hg : w.heap[g]? = some (.cells cur t (0, 0))) (ht : cur.toList.take ws.length = scells ws) :
    ∃ cur', (w.setCell ⟨g, k, none⟩ (.string ⟨s.toArray⟩)).heap[g]? = some (.cells cur' t (0, 0)) ∧ cur'.size = cur.size ∧ cur'.toList.take ws.length = scells (ws.set k s) := by
  refine ⟨_, heap_setCell_same w g _ _ _ _ hg, by simp, ?_⟩
  simp only [Array.toList_setIfInBounds, List.take_set]
  rw [ht, scells_set]

theorem swap_any (w : World) (base qb i j : Nat) (iv : Value) (items : List Hw.Wd) (hn : items.length ≤ 1000000000) (hi : i < items.length) (hj : j < items.length) (hij : i ≠ j) (hQ : QAt w base qb iv items) :
    Calls Tryz.prog 113 #[.pointer (some ⟨qb, 0, none⟩), .int .i64 (i : Int), .int .i64 (j : Int)] w fun e w' => e = .returned (.tuple #[]) ∧ Kept iv.ownBlock.toList w w' ∧ ∃ items', items'.length = items.length ∧ (∀ e, e ∈ items' ↔ e ∈ items) ∧ QAt w' base qb iv items' := by
  obtain ⟨g, cap, cur, rfl, hbg, hg, hnc, hcm, hsz, ht⟩ := hQ.own.read (by omega)
  have p0 := cell_word hg ht hi
  have q0 := cell_word hg ht hj
  have hqg : qb ≠ g := by rintro rfl; rw [hQ.blk] at hg; simp at hg
  refine (swap_walk w qb g items.length cap i j _ _ hn hi hj hij (cellAt hQ.blk rfl) hqg p0 q0 (fun o => frozen_of_row w g o _ _ hg)).mono ?_
  rintro e w' ⟨rfl, hal⟩
  obtain ⟨cur1, h1, hs1, ht1⟩ := row_set (k := i) (items[j]) hg ht
  obtain ⟨cur2, h2, hs2, ht2⟩ := row_set (k := j) (items[i]) h1 (ws := items.set i items[j]) (by simpa using ht1)
  have hK : Kept [g] w w' := Kept.trans (((Kept.refl [g] w).setCell (Or.inl (by simp)) _).setCell (Or.inl (by simp)) _) (hal.kept [g])
  refine ⟨rfl, by simpa [Value.ownBlock] using hK, swapL items i j hi hj, by simp [swapL], mem_swapL items i j hi hj, hK.at hQ.blk (by simpa using hqg), ?_⟩
  have hlen : (swapL items i j hi hj).length = items.length := by simp [swapL]
  refine ⟨by rw [length_scells]; omega, ?_⟩
  rw [hlen]
  refine .inr ⟨g, cap, cur2, rfl, hbg, ?_, hnc, hcm, by rw [hs2, hs1]; omega, ?_⟩
  · rw [hal.1]; exact h2
  · simpa [swapL] using ht2

/-- What waits, in some other order. -/
structure QI (w wr : World) (base qb : Nat) (iv : Value) (items items' : List Hw.Wd) : Prop where
  kept : Kept iv.ownBlock.toList w wr
  len : items'.length = items.length
  mem : ∀ e, e ∈ items' ↔ e ∈ items
  q : QAt wr base qb iv items'

theorem QAt.kept {w w' : World} {base qb : Nat} {iv : Value} {items : List Hw.Wd} {S : List Nat} (h : QAt w base qb iv items) (hK : Kept S w w') (hq : qb ∉ S) (hS : ∀ k, k ∈ S → iv.ownBlock ≠ some k) : QAt w' base qb iv items :=
  ⟨hK.at h.blk hq, h.own.kept hK hS⟩
theorem QAt.below {w w' : World} {base qb : Nat} {iv : Value} {items : List Hw.Wd} (h : QAt w base qb iv items) (hb : Below w.heap.size w w') : QAt w' base qb iv items :=
  h.kept (S := []) (Kept.of_below_size hb) (by simp) (by simp)
theorem QAt.same {w w' : World} {base qb : Nat} {iv : Value} {items : List Hw.Wd} (h : QAt w base qb iv items) (hs : SameW w w') : QAt w' base qb iv items :=
  h.kept (S := []) (hs.kept []) (by simp) (by simp)
theorem QI.below {w wr w' : World} {base qb : Nat} {iv : Value} {items items' : List Hw.Wd} (h : QI w wr base qb iv items items') (hb : Below wr.heap.size wr w') : QI w w' base qb iv items items' :=
  ⟨h.kept.trans (Kept.of_below_size hb), h.len, h.mem, h.q.below hb⟩
theorem QI.same {w wr w' : World} {base qb : Nat} {iv : Value} {items items' : List Hw.Wd} (h : QI w wr base qb iv items items') (hb : SameW wr w') : QI w w' base qb iv items items' :=
  ⟨h.kept.trans (hb.kept _), h.len, h.mem, h.q.same hb⟩
theorem QAt.cells {w : World} {base qb g n cap : Nat} {items : List Hw.Wd} (h : QAt w base qb (.slice (some ⟨g, 0, none⟩) n cap) items) {i : Nat} (hi : i < items.length) :
    ∃ p, (∃ h : i < items.length, items[i] = p) ∧ g < w.heap.size ∧ qb < w.heap.size ∧ w.cell? ⟨qb, 0, none⟩ = some (.slice (some ⟨g, 0, none⟩) n cap) ∧ w.cell? ⟨qb, 1, none⟩ = some (.func (.func 83) #[] #[]) ∧ w.cell? ⟨g, i, none⟩ = some (.string ⟨p.toArray⟩) := by
  obtain ⟨g', cap', cur', hiv, _, hg', _, _, _, ht'⟩ := h.own.read (by omega)
  simp only [Value.slice.injEq, Option.some.injEq, Addr.mk.injEq] at hiv
  obtain ⟨⟨rfl, -, -⟩, -, rfl⟩ := hiv
  exact ⟨items[i], ⟨hi, rfl⟩, lt_of_block hg', lt_of_block h.blk, cellAt h.blk rfl, cellAt h.blk rfl, cell_word hg' ht' hi⟩

set_option maxRecDepth 100000 in
set_option maxHeartbeats 3200000 in
theorem rise_any (w : World) (base qb a0 : Nat) (iv : Value) (items : List Hw.Wd) (hn : items.length ≤ 1000000000) (ha0 : a0 < items.length) (hQ : QAt w base qb iv items) :
    Calls Tryz.prog 112 #[.pointer (some ⟨qb, 0, none⟩), .int .i64 (a0 : Int)] w fun e w' => e = .returned (.tuple #[]) ∧ ∃ items', QI w w' base qb iv items items' := by
  obtain ⟨g, cap, cur, rfl, hbg, hg, hnc, hcm, hsz, ht⟩ := hQ.own.read (by omega)
  have HI0 : Hid (QI w w base qb (.slice (some ⟨g, 0, none⟩) items.length cap) items items) := ⟨Kept.refl _ _, rfl, fun _ => Iff.rfl, hQ⟩
  clear hg hnc hcm hsz ht hQ
  go_enter Tryz.func112, Tryz.ntmps112
  go_wp2
  go_loopw [1] (fun t wr => ∃ (a : Nat) (its : List Hw.Wd), a < items.length ∧ t = .int .i64 (a : Int) ∧ QI w wr base qb (.slice (some ⟨g, 0, none⟩) items.length cap) items its) (fun t _ => (intOf t).toNat)
  case atStart => exact ⟨a0, items, ha0, rfl, HI0.out⟩
  case round =>
    clear HI0
    obtain ⟨a, its, ha, rfl, hI⟩ := hrel
    by_cases hz : a = 0
    · subst hz
      have HI := hide hI
      clear hI
      go_wp2
      go_end0
      exact ⟨rfl, its, HI.out⟩
    · have hup : (a - 1) / 2 < items.length := by omega
      obtain ⟨pa, _, hgl, hql, c0, c1, p0⟩ := hI.q.cells (i := a) (by rw [hI.len]; exact ha)
      obtain ⟨pu, _, _, _, _, _, q0⟩ := hI.q.cells (i := (a - 1) / 2) (by rw [hI.len]; exact hup)
      have HI := hide hI
      clear hI
      have haI : 0 < (a : Int) := by omega
      have hdiv : ((a : Int) - 1) / 2 = (((a - 1) / 2 : Nat) : Int) := by omega
      have hUa : (a - 1) / 2 < a := by omega
      generalize (a - 1) / 2 = U at *
      have haI2 : (a : Int) < (items.length : Int) := by omega
      have hUI2 : (U : Int) < (items.length : Int) := by omega
      have hab : decide (0 < a) = true := by simp; omega
      have HDIV := hide hdiv
      clear hdiv
      go_wp2_with fail
      rw [HDIV.out]
      go_region_held3 (fun w' => w'.cell? ⟨qb, 0, none⟩ = some (.slice (some ⟨g, 0, none⟩) items.length cap) ∧ w'.cell? ⟨qb, 1, none⟩ = some (.func (.func 83) #[] #[]) ∧ w'.cell? ⟨g, a, none⟩ = some (.string ⟨pa.toArray⟩) ∧ w'.cell? ⟨g, U, none⟩ = some (.string ⟨pu.toArray⟩)) (go_keep)
        (first | (go_at_call 83; refine (less_any _ _ _).mono ?_; rintro e w2 ⟨bb, rfl, hb⟩; have k0 := (hb.cell (p := ⟨qb, 0, none⟩) hql).trans c0; have k1 := (hb.cell (p := ⟨qb, 1, none⟩) hql).trans c1; have k2 := (hb.cell (p := ⟨g, a, none⟩) hgl).trans p0; have k6 := (hb.cell (p := ⟨g, U, none⟩) hgl).trans q0; have HB2 := hide (QI.below (QI.same HI.out (drew_same wr)) hb); clear hb))
      clear k0 k1 k2 k6 c0 c1 p0 q0
      cases bb with
      | false =>
        go_wp2
        (try simp only [Exit.inBlock, Exit.then]); refine bodyPost_ret (results_none rfl _ _ _) rfl ?_
        exact ⟨rfl, its, HB2.out⟩
      | true =>
        go_wp2_with fail
        refine (swap_any w2 base qb a U _ its (by rw [HB2.out.len]; exact hn) (by rw [HB2.out.len]; exact ha) (by rw [HB2.out.len]; exact hup) (by omega) HB2.out.q).mono ?_
        rintro e w3 ⟨rfl, hK3, its3, hl3, hm3, hq3⟩
        have HI3 : Hid (QI w w3 base qb (.slice (some ⟨g, 0, none⟩) items.length cap) items its3) := ⟨HB2.out.kept.trans hK3, hl3.trans HB2.out.len, fun e => (hm3 e).trans (HB2.out.mem e), hq3⟩
        clear hK3 hl3 hm3 hq3
        go_wp2
        go_roundw
        case rel => exact ⟨U, its3, by omega, rfl, HI3.out⟩
        case measure => simp [intOf]; omega

set_option maxRecDepth 100000 in
set_option maxHeartbeats 3200000 in
theorem sink_any (w : World) (base qb : Nat) (iv : Value) (items : List Hw.Wd) (hn : items.length ≤ 1000000000) (hQ : QAt w base qb iv items) :
    Calls Tryz.prog 92 #[.pointer (some ⟨qb, 0, none⟩), .int .i64 0] w fun e w' => e = .returned (.tuple #[]) ∧ ∃ items', QI w w' base qb iv items items' := by
  have hsh := hQ.own.shape
  obtain ⟨sa, cap, rfl⟩ := hsh
  have HI0 : Hid (QI w w base qb (.slice sa items.length cap) items items) := ⟨Kept.refl _ _, rfl, fun _ => Iff.rfl, hQ⟩
  clear hQ
  go_enter Tryz.func92, Tryz.ntmps92
  go_wp2
  go_loopw [1] (fun t wr => ∃ (a : Nat) (its : List Hw.Wd), (a < items.length ∨ a = 0) ∧ t = .int .i64 (a : Int) ∧ QI w wr base qb (.slice sa items.length cap) items its) (fun t _ => items.length - (intOf t).toNat)
  case atStart => exact ⟨0, items, Or.inr rfl, rfl, HI0.out⟩
  case round =>
    clear HI0
    obtain ⟨a, its, ha, rfl, hI⟩ := hrel
    have HI := hide hI
    clear hI
    have ha9 : a ≤ 1000000000 := by omega
    go_wp2
    go_loopw [4, 5] (fun f b wr => ∃ (F B : Nat) (its : List Hw.Wd), (F = a ∨ (2 * a + 1 ≤ F ∧ F < items.length)) ∧ 2 * a + 1 ≤ B ∧ B ≤ 2 * a + 3 ∧ f = .int .i64 (F : Int) ∧ b = .int .i64 (B : Int) ∧ QI w wr base qb (.slice sa items.length cap) items its) (fun _ b _ => 2 * a + 3 - (intOf b).toNat)
    case atStart => exact ⟨a, 2 * a + 1, its, Or.inl rfl, by omega, by omega, rfl, by go_num, HI.out⟩
    case round =>
      clear HI
      obtain ⟨F, B, its, hF, hB1, hB2, rfl, rfl, hI⟩ := hrel
      by_cases hle : B ≤ 2 * a + 2 ∧ B < items.length
      · obtain ⟨hle1, hle2⟩ := hle
        have hFl : F < items.length := by omega
        obtain ⟨g, cap', cur', hiv, _⟩ := hI.q.own.read (by rw [hI.len]; omega)
        simp only [Value.slice.injEq] at hiv
        obtain ⟨rfl, -, rfl⟩ := hiv
        obtain ⟨pa, _, hgl, hql, c0, c1, p0⟩ := hI.q.cells (i := B) (by rw [hI.len]; exact hle2)
        obtain ⟨pu, _, _, _, _, _, q0⟩ := hI.q.cells (i := F) (by rw [hI.len]; exact hFl)
        have HI := hide hI
        clear hI
        have hgd : decide ((B : Int) ≤ 2 * (a : Int) + 2) = true := by simp; omega
        have haI2 : (B : Int) < (items.length : Int) := by omega
        have hUI2 : (F : Int) < (items.length : Int) := by omega
        go_wp2_with fail
        go_region_held3 (fun w' => w'.cell? ⟨qb, 0, none⟩ = some (.slice (some ⟨g, 0, none⟩) items.length cap) ∧ w'.cell? ⟨qb, 1, none⟩ = some (.func (.func 83) #[] #[]) ∧ w'.cell? ⟨g, B, none⟩ = some (.string ⟨pa.toArray⟩) ∧ w'.cell? ⟨g, F, none⟩ = some (.string ⟨pu.toArray⟩)) (go_keep)
          (first | (go_at_call 83; refine (less_any _ _ _).mono ?_; rintro e w2 ⟨bb, rfl, hb⟩; have k0 := (hb.cell (p := ⟨qb, 0, none⟩) hql).trans c0; have k1 := (hb.cell (p := ⟨qb, 1, none⟩) hql).trans c1; have k2 := (hb.cell (p := ⟨g, B, none⟩) hgl).trans p0; have k6 := (hb.cell (p := ⟨g, F, none⟩) hgl).trans q0; have HB2 := hide (QI.below (QI.same HI.out (drew_same wr)) hb); clear hb))
        clear k0 k1 k2 k6 c0 c1 p0 q0
        cases bb with
        | false =>
          go_wp2
          go_roundw
          case rel => exact ⟨F, B + 1, its, hF, by omega, by omega, rfl, by go_num, HB2.out⟩
          case measure => simp [intOf]; omega
        | true =>
          go_wp2
          go_roundw
          case rel => exact ⟨B, B + 1, its, Or.inr ⟨hB1, hle2⟩, by omega, by omega, rfl, by go_num, HB2.out⟩
          case measure => simp [intOf]; omega
      · have c0 := cellAt hI.q.blk (j := 0) (v := .slice sa items.length cap) rfl
        have HI := hide hI
        clear hI
        by_cases hB3 : B ≤ 2 * a + 2
        · have hB4 : items.length ≤ B := by omega
          have hgd : decide ((B : Int) ≤ 2 * (a : Int) + 2) = true := by simp; omega
          by_cases hFa : F = a
          · subst hFa
            go_wp2_with fail
            (try simp only [Exit.inBlock, Exit.then]); refine bodyPost_ret (results_none rfl _ _ _) rfl ?_
            exact ⟨rfl, its, HI.out⟩
          · have hne : ((F : Int) == (a : Int)) = false := by simp; omega
            have hF2 : 2 * a + 1 ≤ F ∧ F < items.length := by omega
            go_wp2_with fail
            refine (swap_any wr base qb a F _ its (by rw [HI.out.len]; exact hn) (by rw [HI.out.len]; omega) (by rw [HI.out.len]; omega) (by omega) HI.out.q).mono ?_
            rintro e w3 ⟨rfl, hK3, its3, hl3, hm3, hq3⟩
            have HI3 : Hid (QI w w3 base qb (.slice sa items.length cap) items its3) := ⟨HI.out.kept.trans hK3, hl3.trans HI.out.len, fun e => (hm3 e).trans (HI.out.mem e), hq3⟩
            clear hK3 hl3 hm3 hq3
            go_wp2
            go_roundw
            case rel => exact ⟨F, its3, Or.inl hF2.2, rfl, HI3.out⟩
            case measure => simp [intOf]; omega
        · have hgd : decide ((B : Int) ≤ 2 * (a : Int) + 2) = false := by simp; omega
          by_cases hFa : F = a
          · subst hFa
            go_wp2_with fail
            (try simp only [Exit.inBlock, Exit.then]); refine bodyPost_ret (results_none rfl _ _ _) rfl ?_
            exact ⟨rfl, its, HI.out⟩
          · have hne : ((F : Int) == (a : Int)) = false := by simp; omega
            have hF2 : 2 * a + 1 ≤ F ∧ F < items.length := by omega
            go_wp2_with fail
            refine (swap_any wr base qb a F _ its (by rw [HI.out.len]; exact hn) (by rw [HI.out.len]; omega) (by rw [HI.out.len]; omega) (by omega) HI.out.q).mono ?_
            rintro e w3 ⟨rfl, hK3, its3, hl3, hm3, hq3⟩
            have HI3 : Hid (QI w w3 base qb (.slice sa items.length cap) items its3) := ⟨HI.out.kept.trans hK3, hl3.trans HI.out.len, fun e => (hm3 e).trans (HI.out.mem e), hq3⟩
            clear hK3 hl3 hm3 hq3
            go_wp2
            go_roundw
            case rel => exact ⟨F, its3, Or.inl hF2.2, rfl, HI3.out⟩
            case measure => simp [intOf]; omega
end Qs
end Go.Proofs.YtfiebibpgbadlaaGreat
namespace Go.Proofs.YtfiebibpgbadlaaGreat
open Go.RowKit
set_option linter.unusedVariables false
set_option linter.unusedSimpArgs false

namespace Qs
/-- What waits behind Put. -/
structure QPut (w wr : World) (base qb : Nat) (iv iv' : Value) (items items' : List Hw.Wd) (p : Hw.Wd) : Prop where
  kept : Kept (qb :: iv.ownBlock.toList) w wr
  fresh : ∀ k, iv'.ownBlock = some k → iv.ownBlock = some k ∨ w.heap.size ≤ k
  len : items'.length = items.length + 1
  mem : ∀ e, e ∈ items' ↔ e ∈ items ∨ e = p
  q : QAt wr base qb iv' items'

/-- What waits behind Take. -/
structure QTake (w wr : World) (base qb : Nat) (iv iv' : Value) (items items' : List Hw.Wd) (p : Hw.Wd) : Prop where
  kept : Kept (qb :: iv.ownBlock.toList) w wr
  fresh : ∀ k, iv'.ownBlock = some k → iv.ownBlock = some k ∨ w.heap.size ≤ k
  len : items'.length + 1 = items.length
  mem1 : p ∈ items
  mem2 : ∀ e, e ∈ items → e = p ∨ e ∈ items'
  mem3 : ∀ e, e ∈ items' → e ∈ items
  q : QAt wr base qb iv' items'

theorem QAt.ne {w : World} {base qb : Nat} {iv : Value} {items : List Hw.Wd} (h : QAt w base qb iv items) : iv.ownBlock ≠ some qb := by
  intro e
  obtain ⟨_, cur, hc⟩ := h.own.type e
  rw [h.blk] at hc; simp at hc

theorem put_step {w w0 w1 : World} {base qb : Nat} {iv v' : Value} {items : List Hw.Wd} {p : Hw.Wd} (h : QAt w base qb iv items) {o1 : Obj} (h0 : SameW (w.alloc o1) w0)
    (hown : w1.ownsRow base 9 1 v' (items.length + 1) (scells items ++ [.string ⟨p.toArray⟩])) (hgrow : w0.grownBy w1 iv.ownBlock) (hex : ∀ k, v'.ownBlock = some k → iv.ownBlock = some k ∨ w0.heap.size ≤ k) :
    w1.heap[qb]? = some (.cells #[iv, .func (.func 83) #[] #[]] 158 (0, 0)) ∧
    QPut w (w1.setCell ⟨qb, 0, none⟩ v') base qb iv v' items (items ++ [p]) p := by
  have hne := h.ne
  have hK : Kept iv.ownBlock.toList w w1 := (((Kept.refl _ w).alloc _).trans (h0.kept _)).trans (Kept.of_grown hgrow (fun k hk => by simp [hk]))
  have hb1 := hK.at h.blk (by simpa using hne)
  have hb2 : (w1.setCell ⟨qb, 0, none⟩ v').heap[qb]? = some (.cells #[v', .func (.func 83) #[] #[]] 158 (0, 0)) := by
    rw [heap_setCell_same _ _ 0 _ _ _ hb1]; rfl
  have hK2 : Kept (qb :: iv.ownBlock.toList) w (w1.setCell ⟨qb, 0, none⟩ v') := (hK.mono (S' := qb :: iv.ownBlock.toList) (fun k hk _ => List.mem_cons_of_mem _ hk)).setCell (Or.inl (by simp)) _
  have hw0 : w0.heap.size = w.heap.size + 1 := by rw [h0.1]; simp
  refine ⟨hb1, hK2, fun k hk => (hex k hk).imp id (fun h => by omega), by simp, fun e => by simp, hb2, ?_⟩
  have e : scells (items ++ [p]) = scells items ++ [.string ⟨p.toArray⟩] := by simp [scells]
  unfold StrsAt
  rw [e, show (items ++ [p]).length = items.length + 1 by simp]
  refine ⟨hown.1, ?_⟩
  rcases hown.2 with h1 | ⟨g, cap, cur, h1, h2, hg, r⟩
  · exact .inl h1
  · refine .inr ⟨g, cap, cur, h1, h2, ?_, r⟩
    rw [Below.heap_setCell _ _ _ _ (fun e => by subst e; rw [hb1] at hg; simp at hg)]
    exact hg

theorem QPut.fin {w w1 w2 : World} {base qb : Nat} {iv iv' : Value} {items its its3 : List Hw.Wd} {p : Hw.Wd} (h : QPut w w1 base qb iv iv' items its p) (h2 : QI w1 w2 base qb iv' its its3) : QPut w w2 base qb iv iv' items its3 p := by
  refine ⟨⟨h2.kept.os.trans h.kept.os, h2.kept.tape.trans h.kept.tape, h2.kept.output.trans h.kept.output, Nat.le_trans h.kept.size h2.kept.size, fun k hk hn => ?_⟩, h.fresh, h2.len.trans h.len, fun e => (h2.mem e).trans (h.mem e), h2.q⟩
  rw [h2.kept.block k (Nat.lt_of_lt_of_le hk h.kept.size) ?_, h.kept.block k hk hn]
  intro hm
  have hm' : iv'.ownBlock = some k := by simpa using hm
  rcases h.fresh k hm' with e | e
  · exact hn (by simp [e])
  · omega

set_option maxRecDepth 100000 in
set_option maxHeartbeats 3200000 in
theorem put_any (w : World) (base qb : Nat) (iv : Value) (items : List Hw.Wd) (p : Hw.Wd) (hn : items.length < 1000000000) (hQ : QAt w base qb iv items) (hbase : base ≤ w.heap.size) :
    Calls Tryz.prog 90 #[.pointer (some ⟨qb, 0, none⟩), .string ⟨p.toArray⟩] w fun e w' => e = .returned (.tuple #[]) ∧ ∃ iv' items', QPut w w' base qb iv iv' items items' p := by
  have hsh := hQ.own.shape
  obtain ⟨sa, cap, rfl⟩ := hsh
  have c0 := cellAt hQ.blk (j := 0) (v := .slice sa items.length cap) rfl
  have f0 := frozen_of_row w qb 0 _ _ hQ.blk
  have hql : qb < w.heap.size := lt_of_block hQ.blk
  have HQ := hide hQ
  clear hQ
  obtain ⟨i0, hi0, hz0, hz1, hz2⟩ := info_parts Tryz.infoStr
  have HI0 := hide hi0
  have HZ0 := hide hz0
  have HZ1 := hide hz1
  have HZ2 := hide hz2
  clear hi0 hz0 hz1 hz2
  go_enter Tryz.func90, Tryz.ntmps90
  have HOWN : Hid (∀ o1, (w.alloc o1).ownsRow base 9 1 (.slice sa items.length cap) items.length (scells items)) := fun o1 => HQ.out.own.alloc o1
  have hc1 : ∀ j u, [Value.string ⟨p.toArray⟩][j]? = some u → (w.alloc (.cells #[.string ⟨p.toArray⟩] 9)).cell? ((⟨w.heap.size, 0, none⟩ : Addr).add j) = some u := newCell1 w _ _
  have HC1 := hide hc1
  clear hc1
  go_wp2_with (at_builtin; refine wpList_append_exact _ rfl (.tmp 8) (.tmp 10) 60 rfl base 9 i0 (.string ⟨#[]⟩) 1 16 Tryz.underlying60 HI0.out HZ0.out HZ1.out HZ2.out rfl (by decide) (.slice sa items.length cap) items.length (scells items) rfl (HOWN.out _) ⟨w.heap.size, 0, none⟩ 1 1 [.string ⟨p.toArray⟩] rfl rfl HC1.out (scells_one [p]) (by unfold maxLen; omega) (by omega) (by simp; omega) ?_; intro v' w1 hown hgrow hex; obtain ⟨g2, cap2, rfl⟩ := own_shape hown; have R := put_step HQ.out (by exact ⟨rfl, rfl, rfl, rfl⟩) hown hgrow hex; have d0 := cellAt R.1 (j := 0) (v := .slice sa items.length cap) rfl; have e0 := frozen_of_row w1 qb 0 _ _ R.1; have R2 := hide R.2; have d1 := cellAt R2.out.q.blk (j := 0) (v := .slice (some ⟨g2, 0, none⟩) (items.length + 1) cap2) rfl; clear R hown hgrow hex)
  refine (rise_any _ base qb items.length _ (items ++ [p]) (by simp; omega) (by simp) R2.out.q).mono ?_
  rintro e w3 ⟨rfl, its3, hQI⟩
  have HQI := hide hQI
  clear hQI d0 e0 d1 c0 f0
  go_wp2
  go_end0
  exact ⟨rfl, _, its3, R2.out.fin HQI.out⟩

set_option maxRecDepth 100000 in
set_option maxHeartbeats 3200000 in
theorem take_none (w : World) (base qb : Nat) (iv : Value) (hQ : QAt w base qb iv []) :
    Calls Tryz.prog 59 #[.pointer (some ⟨qb, 0, none⟩)] w fun e w' => e = .returned (.tuple #[.string ⟨#[]⟩, .bool false]) ∧ Below w.heap.size w w' := by
  have hsh := hQ.own.shape
  obtain ⟨sa, cap, rfl⟩ := hsh
  have c0 := cellAt hQ.blk (j := 0) (v := .slice sa 0 cap) rfl
  clear hQ
  go_enter Tryz.func59, Tryz.ntmps59
  go_wp2
  go_ret2
  exact ⟨rfl, by first | exact Below.refl _ _ | skip⟩

theorem QAt.set {w : World} {base qb g n cap k : Nat} {items : List Hw.Wd} (s : Hw.Wd) (hQ : QAt w base qb (.slice (some ⟨g, 0, none⟩) n cap) items) (hp : 0 < items.length) (W : World) (hW : SameW (w.setCell ⟨g, k, none⟩ (.string ⟨s.toArray⟩)) W) :
    QAt W base qb (.slice (some ⟨g, 0, none⟩) n cap) (items.set k s) ∧ Kept [g] w W := by
  obtain ⟨g', cap', cur, hiv, hb, hg, h1, h2, h3, ht⟩ := hQ.own.read hp
  simp only [Value.slice.injEq, Option.some.injEq, Addr.mk.injEq] at hiv
  obtain ⟨⟨rfl, -, -⟩, rfl, rfl⟩ := hiv
  have hqg : qb ≠ g := by rintro rfl; rw [hQ.blk] at hg; simp at hg
  obtain ⟨cur1, r1, r2, r3⟩ := row_set (k := k) s hg ht
  have hK : Kept [g] w W := ((Kept.refl [g] w).setCell (Or.inl (by simp)) _).trans (hW.kept _)
  refine ⟨⟨hK.at hQ.blk (by simpa using hqg), ?_⟩, hK⟩
  refine ⟨by rw [length_scells]; simp, .inr ⟨g, cap, cur1, by simp, hb, by rw [hW.1]; exact r1, by simpa using h1, h2, by omega, by simpa using r3⟩⟩

theorem QAt.cut {w : World} {base qb g cap n : Nat} {items : List Hw.Wd} (hQ : QAt w base qb (.slice (some ⟨g, 0, none⟩) (n + 1) cap) items) (hl : items.length = n + 1) :
    QAt (w.setCell ⟨qb, 0, none⟩ (.slice (some ⟨g, 0, none⟩) n cap)) base qb (.slice (some ⟨g, 0, none⟩) n cap) (items.take n) ∧ Kept [qb] w (w.setCell ⟨qb, 0, none⟩ (.slice (some ⟨g, 0, none⟩) n cap)) := by
  obtain ⟨g', cap', cur, hiv, hb, hg, h1, h2, h3, ht⟩ := hQ.own.read (by omega)
  simp only [Value.slice.injEq, Option.some.injEq, Addr.mk.injEq] at hiv
  obtain ⟨⟨rfl, -, -⟩, -, rfl⟩ := hiv
  have hqg : g ≠ qb := by rintro rfl; rw [hQ.blk] at hg; simp at hg
  have hK : Kept [qb] w (w.setCell ⟨qb, 0, none⟩ (.slice (some ⟨g, 0, none⟩) n cap)) := (Kept.refl _ _).setCell (Or.inl (by simp)) _
  refine ⟨⟨by rw [heap_setCell_same _ _ 0 _ _ _ hQ.blk]; rfl, ?_⟩, hK⟩
  have e : (items.take n).length = n := by simp [hl]
  refine ⟨by rw [length_scells]; simp, ?_⟩
  rw [e]
  refine .inr ⟨g, cap, cur, rfl, hb, hK.at hg (by simpa using hqg), by omega, h2, by omega, ?_⟩
  have e2 : scells (items.take n) = (scells items).take n := by simp [scells]
  rw [e2, ← ht, List.take_take, hl, Nat.mul_one]
  congr 1
  omega

theorem take_fin {w w4 w8 : World} {base qb g cap n : Nat} {items its8 : List Hw.Wd} {pa pu : Hw.Wd} (hQ : QAt w base qb (.slice (some ⟨g, 0, none⟩) (n + 1) cap) items) (hlen : items.length = n + 1)
    (hpa : ∃ h : 0 < items.length, items[0] = pa) (hpu : ∃ h : n < items.length, items[n] = pu) (hK4 : Kept [g, qb] w w4) {I7 : List Hw.Wd} (hQI : QI w4 w8 base qb (.slice (some ⟨g, 0, none⟩) n cap) I7 its8)
    (hI7 : I7 = ((items.set 0 pu).set n ([] : Hw.Wd)).take n) : QTake w w8 base qb (.slice (some ⟨g, 0, none⟩) (n + 1) cap) (.slice (some ⟨g, 0, none⟩) n cap) items its8 pa := by
  obtain ⟨hp0, hpa⟩ := hpa
  obtain ⟨hpn, hpu⟩ := hpu
  have hmI : ∀ e, e ∈ its8 ↔ e ∈ I7 := hQI.mem
  refine ⟨?_, fun k hk => .inl (by simpa [Value.ownBlock] using hk), ?_, ?_, ?_, ?_, hQI.q⟩
  · have := hK4.trans (hQI.kept.mono (S' := [g, qb]) (by simp [Value.ownBlock]))
    exact this.mono (by simp [Value.ownBlock])
  · rw [hQI.len, hI7]; simp [hlen]
  · rw [← hpa]; exact List.getElem_mem _
  · intro e he
    obtain ⟨k, hk, rfl⟩ := List.getElem_of_mem he
    by_cases h0 : k = 0
    · subst h0; exact Or.inl hpa
    · right
      rw [hmI, hI7]
      by_cases hkn : k = n
      · subst hkn
        rw [List.mem_iff_getElem]
        refine ⟨0, by simp; omega, ?_⟩
        rw [List.getElem_take, List.getElem_set_ne (by omega), List.getElem_set_self]
        exact hpu.symm
      · rw [List.mem_iff_getElem]
        refine ⟨k, by simp; omega, ?_⟩
        rw [List.getElem_take, List.getElem_set_ne (by omega), List.getElem_set_ne (by omega)]
  · intro e he
    rw [hmI, hI7] at he
    obtain ⟨k, hk, rfl⟩ := List.getElem_of_mem he
    simp at hk
    rw [List.getElem_take, List.getElem_set_ne (by omega)]
    by_cases h0 : k = 0
    · subst h0
      rw [List.getElem_set_self, ← hpu]; exact List.getElem_mem _
    · rw [List.getElem_set_ne (by omega)]; exact List.getElem_mem _

set_option maxRecDepth 100000 in
set_option maxHeartbeats 3200000 in
theorem take_many (w : World) (base qb g cap n : Nat) (items : List Hw.Wd) (hlen : items.length = n + 1) (hn : n ≤ 1000000000) (hQ : QAt w base qb (.slice (some ⟨g, 0, none⟩) (n + 1) cap) items) :
    Calls Tryz.prog 59 #[.pointer (some ⟨qb, 0, none⟩)] w fun e w' => ∃ p iv' items', e = .returned (.tuple #[.string ⟨p.toArray⟩, .bool true]) ∧
      QTake w w' base qb (.slice (some ⟨g, 0, none⟩) (n + 1) cap) iv' items items' p := by
  obtain ⟨pa, hpa, hgl, hql, c0, c1, p0⟩ := hQ.cells (i := 0) (by omega)
  obtain ⟨pu, hpu, _, _, _, _, q0⟩ := hQ.cells (i := n) (by omega)
  obtain ⟨g', cap', cur', hiv, _, hg', hcap, _⟩ := hQ.own.read (by omega)
  simp only [Value.slice.injEq, Option.some.injEq, Addr.mk.injEq] at hiv
  obtain ⟨⟨rfl, -, -⟩, -, rfl⟩ := hiv
  have hfz : ∀ o, w.frozen? ⟨g, o, none⟩ = false := fun o => frozen_of_row w g o _ _ hg'
  have hqg : qb ≠ g := by rintro rfl; rw [hQ.blk] at hg'; simp at hg'
  have hcap2 : n + 1 ≤ cap := by omega
  have HQ := hide hQ
  have HPA := hide hpa
  have HPU := hide hpu
  have HLEN := hide hlen
  clear hQ hpa hpu hlen hg' hcap
  go_enter Tryz.func59, Tryz.ntmps59
  go_wp2
  go_region
  go_wp2
  go_region
  have T5 := HQ.out.set (k := 0) pu (by have := HLEN.out; omega) (w.setCell ⟨g, 0, none⟩ (.string ⟨pu.toArray⟩)).drew.drew ⟨rfl, rfl, rfl, rfl⟩
  generalize (w.setCell ⟨g, 0, none⟩ (.string ⟨pu.toArray⟩)).drew.drew = w5 at T5 ⊢
  obtain ⟨hQ5, hK5⟩ := T5
  have hl5 : (items.set 0 pu).length = n + 1 := by have := HLEN.out; simp [this]
  obtain ⟨pn, _, _, _, C0, _, P0⟩ := hQ5.cells (i := n) (by omega)
  have FZ : ∀ o, w5.frozen? ⟨g, o, none⟩ = false := by
    obtain ⟨g', cap', cur', hiv, _, hg', _⟩ := hQ5.own.read (by omega)
    simp only [Value.slice.injEq, Option.some.injEq, Addr.mk.injEq] at hiv
    intro o
    rw [hiv.1.1]
    exact frozen_of_row w5 g' o _ _ hg'
  have HQ5 := hide hQ5
  have HK5 := hide hK5
  have HL5 := hide hl5
  have T6 := hide (HQ5.out.set (k := n) [] (by omega) (w5.setCell ⟨g, n, none⟩ (.string ⟨#[]⟩)) ⟨rfl, rfl, rfl, rfl⟩)
  have D0 := cellAt T6.out.1.blk (j := 0) (v := .slice (some ⟨g, 0, none⟩) (n + 1) cap) rfl
  have F0 := frozen_of_row (w5.setCell ⟨g, n, none⟩ (.string ⟨#[]⟩)) qb 0 _ _ T6.out.1.blk
  have HT7 := hide (T6.out.1.cut (by simpa using HLEN.out))
  clear c0 c1 p0 q0 hfz hQ5 hK5 hl5
  go_wp2_with fail
  refine (sink_any _ base qb _ _ (by have := HLEN.out; simp [this]; omega) HT7.out.1).mono ?_
  rintro e w8 ⟨rfl, its8, hQI⟩
  have hKall : Kept [g, qb] w ((w5.setCell ⟨g, n, none⟩ (.string ⟨#[]⟩)).setCell ⟨qb, 0, none⟩ (.slice (some ⟨g, 0, none⟩) n cap)) :=
    ((HK5.out.mono (S' := [g, qb]) (by simp)).trans (T6.out.2.mono (S' := [g, qb]) (by simp))).trans (HT7.out.2.mono (S' := [g, qb]) (by simp))
  have HFIN := hide (take_fin HQ.out HLEN.out HPA.out HPU.out hKall hQI rfl)
  clear hKall hQI C0 P0 FZ D0 F0
  go_wp2
  go_ret2
  exact ⟨pa, _, its8, rfl, HFIN.out⟩

theorem take_some (w : World) (base qb : Nat) (iv : Value) (items : List Hw.Wd) (hn : items.length ≤ 1000000000) (hp : 0 < items.length) (hQ : QAt w base qb iv items) :
    Calls Tryz.prog 59 #[.pointer (some ⟨qb, 0, none⟩)] w fun e w' => ∃ p iv' items', e = .returned (.tuple #[.string ⟨p.toArray⟩, .bool true]) ∧
      QTake w w' base qb iv iv' items items' p := by
  obtain ⟨g, cap, cur, rfl, _⟩ := hQ.own.read hp
  have e : items.length = (items.length - 1) + 1 := by omega
  generalize items.length - 1 = n at e
  rw [e] at hQ ⊢
  exact take_many w base qb g cap n items e (by omega) hQ
end Qs
end Go.Proofs.YtfiebibpgbadlaaGreat
