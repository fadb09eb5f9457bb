import Derived.Test.YtfiebibpgbadlaaGreatProgC
import Derived.Deep.RegionHeld3
namespace Go.Proofs.YtfiebibpgbadlaaGreat
open Go.RowKit
set_option linter.unusedVariables false
set_option linter.unusedSimpArgs false
attribute [local go_sem] run_store_float

/-- What waits, in some other order. -/
structure QI (w wr : World) (base qb : Nat) (iv : Value) (items items' : List Item) : Prop where
  kept : Kept iv.ownBlock.toList w wr
  len : items'.length = items.length
  mem : ∀ e, e ∈ items' ↔ e ∈ items
  q : QAt wr base qb iv items'

theorem QAt.below {w w' : World} {base qb : Nat} {iv : Value} {items : List Item} (h : QAt w base qb iv items) (hb : Below w.heap.size w w') : QAt w' base qb iv items := by
  refine ⟨(hb.block qb (lt_of_block h.blk)).trans h.blk, h.own.1, ?_⟩
  rcases h.own.2 with h1 | ⟨g, cap, cur, rfl, hbg, hg, r⟩
  · exact .inl h1
  · exact .inr ⟨g, cap, cur, rfl, hbg, (hb.block g (lt_of_block hg)).trans hg, r⟩
theorem QAt.same {w w' : World} {base qb : Nat} {iv : Value} {items : List Item} (h : QAt w base qb iv items) (hs : SameW w w') : QAt w' base qb iv items := by
  refine ⟨by rw [hs.1]; exact h.blk, h.own.1, ?_⟩
  rcases h.own.2 with h1 | ⟨g, cap, cur, rfl, hbg, hg, r⟩
  · exact .inl h1
  · exact .inr ⟨g, cap, cur, rfl, hbg, by rw [hs.1]; exact hg, r⟩
theorem QI.below {w wr w' : World} {base qb : Nat} {iv : Value} {items items' : List Item} (h : QI w wr base qb iv items items') (hb : Below wr.heap.size wr w') : QI w w' base qb iv items items' :=
  ⟨h.kept.trans (Kept.of_below_size hb), h.len, h.mem, h.q.below hb⟩
theorem QI.same {w wr w' : World} {base qb : Nat} {iv : Value} {items items' : List Item} (h : QI w wr base qb iv items items') (hb : SameW wr w') : QI w w' base qb iv items items' :=
  ⟨h.kept.trans (hb.kept _), h.len, h.mem, h.q.same hb⟩

theorem QAt.cells {w : World} {base qb g n cap : Nat} {items : List Item} (h : QAt w base qb (.slice (some ⟨g, 0, none⟩) n cap) items) {i : Nat} (hi : i < items.length) :
    ∃ p, (∃ h : i < items.length, items[i] = p) ∧ g < w.heap.size ∧ qb < w.heap.size ∧ w.cell? ⟨qb, 0, none⟩ = some (.slice (some ⟨g, 0, none⟩) n cap) ∧ w.cell? ⟨qb, 1, none⟩ = some (.func (.func 74) #[] #[]) ∧
      w.cell? ⟨g, i * 4, none⟩ = some (.string ⟨p.1.toArray⟩) ∧ w.cell? ⟨g, i * 4 + 1, none⟩ = some (.string ⟨p.2.1.toArray⟩) ∧ w.cell? ⟨g, i * 4 + 2, none⟩ = some (.float .f64 p.2.2.1) ∧ w.cell? ⟨g, i * 4 + 3, none⟩ = some (.int .i64 p.2.2.2) := by
  obtain ⟨g', cap', cur', hiv, _, hg', _, _, _, ht'⟩ := h.read (by omega)
  simp only [Value.slice.injEq, Option.some.injEq, Addr.mk.injEq] at hiv
  obtain ⟨⟨rfl, -, -⟩, -, rfl⟩ := hiv
  exact ⟨items[i], ⟨hi, rfl⟩, lt_of_block hg', lt_of_block h.blk, cellAt h.blk rfl, cellAt h.blk rfl, cell_item hg' rfl ht' hi⟩

set_option maxRecDepth 100000 in
set_option maxHeartbeats 3200000 in
theorem rise_any (w : World) (base qb a0 : Nat) (iv : Value) (items : List Item) (hn : items.length ≤ 1000000000) (ha0 : a0 < items.length) (hQ : QAt w base qb iv items) :
    Calls Tryz.prog 115 #[.pointer (some ⟨qb, 0, none⟩), .int .i64 (a0 : Int)] w fun e w' => e = .returned (.tuple #[]) ∧ ∃ items', QI w w' base qb iv items items' := by
  obtain ⟨g, cap, cur, rfl, hbg, hg, hnc, hcm, hsz, ht⟩ := hQ.read (by omega)
  have HI0 : Hid (QI w w base qb (.slice (some ⟨g, 0, none⟩) items.length cap) items items) := ⟨Kept.refl _ _, rfl, fun _ => Iff.rfl, hQ⟩
  clear hg hnc hcm hsz ht hQ
  go_enter Tryz.func115, Tryz.ntmps115
  go_wp2
  go_loopw [1] (fun t wr => ∃ (a : Nat) (its : List Item), a < items.length ∧ t = .int .i64 (a : Int) ∧ QI w wr base qb (.slice (some ⟨g, 0, none⟩) items.length cap) items its) (fun t _ => (intOf t).toNat)
  case atStart => exact ⟨a0, items, ha0, rfl, HI0.out⟩
  case round =>
    clear HI0
    obtain ⟨a, its, ha, rfl, hI⟩ := hrel
    by_cases hz : a = 0
    · subst hz
      have HI := hide hI
      clear hI
      go_wp2
      go_end0
      exact ⟨rfl, its, HI.out⟩
    · have hup : (a - 1) / 2 < items.length := by omega
      obtain ⟨pa, _, hgl, hql, c0, c1, p0, p1, p2, p3⟩ := hI.q.cells (i := a) (by rw [hI.len]; exact ha)
      obtain ⟨pu, _, _, _, _, _, q0, q1, q2, q3⟩ := hI.q.cells (i := (a - 1) / 2) (by rw [hI.len]; exact hup)
      have HI := hide hI
      clear hI
      have haI : 0 < (a : Int) := by omega
      have hdiv : ((a : Int) - 1) / 2 = (((a - 1) / 2 : Nat) : Int) := by omega
      have hUa : (a - 1) / 2 < a := by omega
      generalize (a - 1) / 2 = U at *
      have haI2 : (a : Int) < (items.length : Int) := by omega
      have hUI2 : (U : Int) < (items.length : Int) := by omega
      have hab : decide (0 < a) = true := by simp; omega
      have HDIV := hide hdiv
      clear hdiv
      go_wp2_with fail
      rw [HDIV.out]
      go_region_held3 (fun w' => w'.cell? ⟨qb, 0, none⟩ = some (.slice (some ⟨g, 0, none⟩) items.length cap) ∧ w'.cell? ⟨qb, 1, none⟩ = some (.func (.func 74) #[] #[]) ∧
          w'.cell? ⟨g, a * 4, none⟩ = some (.string ⟨pa.1.toArray⟩) ∧ w'.cell? ⟨g, a * 4 + 1, none⟩ = some (.string ⟨pa.2.1.toArray⟩) ∧ w'.cell? ⟨g, a * 4 + 2, none⟩ = some (.float .f64 pa.2.2.1) ∧ w'.cell? ⟨g, a * 4 + 3, none⟩ = some (.int .i64 pa.2.2.2) ∧
          w'.cell? ⟨g, U * 4, none⟩ = some (.string ⟨pu.1.toArray⟩) ∧ w'.cell? ⟨g, U * 4 + 1, none⟩ = some (.string ⟨pu.2.1.toArray⟩) ∧ w'.cell? ⟨g, U * 4 + 2, none⟩ = some (.float .f64 pu.2.2.1) ∧ w'.cell? ⟨g, U * 4 + 3, none⟩ = some (.int .i64 pu.2.2.2)) (go_keep)
        (first | (go_at_call 74; refine (lighter_any _ _ _ _ _ _ _ _ _).mono ?_; rintro e w2 ⟨bb, rfl, hb⟩; have k0 := (hb.cell (p := ⟨qb, 0, none⟩) hql).trans c0; have k1 := (hb.cell (p := ⟨qb, 1, none⟩) hql).trans c1; have k2 := (hb.cell (p := ⟨g, a * 4, none⟩) hgl).trans p0; have k3 := (hb.cell (p := ⟨g, a * 4 + 1, none⟩) hgl).trans p1; have k4 := (hb.cell (p := ⟨g, a * 4 + 2, none⟩) hgl).trans p2; have k5 := (hb.cell (p := ⟨g, a * 4 + 3, none⟩) hgl).trans p3; have k6 := (hb.cell (p := ⟨g, U * 4, none⟩) hgl).trans q0; have k7 := (hb.cell (p := ⟨g, U * 4 + 1, none⟩) hgl).trans q1; have k8 := (hb.cell (p := ⟨g, U * 4 + 2, none⟩) hgl).trans q2; have k9 := (hb.cell (p := ⟨g, U * 4 + 3, none⟩) hgl).trans q3; have HB2 := hide (QI.below (QI.same HI.out (drew_same wr)) hb); clear hb))
      clear k0 k1 k2 k3 k4 k5 k6 k7 k8 k9 c0 c1 p0 p1 p2 p3 q0 q1 q2 q3
      cases bb with
      | false =>
        go_wp2
        (try simp only [Exit.inBlock, Exit.then]); refine bodyPost_ret (results_none rfl _ _ _) rfl ?_
        exact ⟨rfl, its, HB2.out⟩
      | true =>
        go_wp2_with fail
        refine (swap_any w2 base qb a U _ its (by rw [HB2.out.len]; exact hn) (by rw [HB2.out.len]; exact ha) (by rw [HB2.out.len]; exact hup) (by omega) HB2.out.q).mono ?_
        rintro e w3 ⟨rfl, hK3, its3, hl3, hm3, hq3⟩
        have HI3 : Hid (QI w w3 base qb (.slice (some ⟨g, 0, none⟩) items.length cap) items its3) := ⟨HB2.out.kept.trans hK3, hl3.trans HB2.out.len, fun e => (hm3 e).trans (HB2.out.mem e), hq3⟩
        clear hK3 hl3 hm3 hq3
        go_wp2
        go_roundw
        case rel => exact ⟨U, its3, by omega, rfl, HI3.out⟩
        case measure => simp [intOf]; omega
end Go.Proofs.YtfiebibpgbadlaaGreat
namespace Go.Proofs.YtfiebibpgbadlaaGreat
open Go.RowKit
set_option linter.unusedVariables false
set_option linter.unusedSimpArgs false
attribute [local go_sem] run_store_float

set_option maxRecDepth 100000 in
set_option maxHeartbeats 3200000 in
theorem sink_any (w : World) (base qb : Nat) (iv : Value) (items : List Item) (hn : items.length ≤ 1000000000) (hQ : QAt w base qb iv items) :
    Calls Tryz.prog 99 #[.pointer (some ⟨qb, 0, none⟩), .int .i64 0] w fun e w' => e = .returned (.tuple #[]) ∧ ∃ items', QI w w' base qb iv items items' := by
  have hsh := hQ.shape
  obtain ⟨sa, cap, rfl⟩ := hsh
  have HI0 : Hid (QI w w base qb (.slice sa items.length cap) items items) := ⟨Kept.refl _ _, rfl, fun _ => Iff.rfl, hQ⟩
  clear hQ
  go_enter Tryz.func99, Tryz.ntmps99
  go_wp2
  go_loopw [1] (fun t wr => ∃ (a : Nat) (its : List Item), (a < items.length ∨ a = 0) ∧ t = .int .i64 (a : Int) ∧ QI w wr base qb (.slice sa items.length cap) items its) (fun t _ => items.length - (intOf t).toNat)
  case atStart => exact ⟨0, items, Or.inr rfl, rfl, HI0.out⟩
  case round =>
    clear HI0
    obtain ⟨a, its, ha, rfl, hI⟩ := hrel
    have HI := hide hI
    clear hI
    have ha9 : a ≤ 1000000000 := by omega
    go_wp2
    go_loopw [4, 5] (fun f b wr => ∃ (F B : Nat) (its : List Item), (F = a ∨ (2 * a + 1 ≤ F ∧ F < items.length)) ∧ 2 * a + 1 ≤ B ∧ B ≤ 2 * a + 3 ∧ f = .int .i64 (F : Int) ∧ b = .int .i64 (B : Int) ∧ QI w wr base qb (.slice sa items.length cap) items its) (fun _ b _ => 2 * a + 3 - (intOf b).toNat)
    case atStart => exact ⟨a, 2 * a + 1, its, Or.inl rfl, by omega, by omega, rfl, by go_num, HI.out⟩
    case round =>
      clear HI
      obtain ⟨F, B, its, hF, hB1, hB2, rfl, rfl, hI⟩ := hrel
      by_cases hle : B ≤ 2 * a + 2 ∧ B < items.length
      · obtain ⟨hle1, hle2⟩ := hle
        have hFl : F < items.length := by omega
        obtain ⟨g, cap', cur', hiv, _⟩ := hI.q.read (by rw [hI.len]; omega)
        simp only [Value.slice.injEq] at hiv
        obtain ⟨rfl, -, rfl⟩ := hiv
        obtain ⟨pa, _, hgl, hql, c0, c1, p0, p1, p2, p3⟩ := hI.q.cells (i := B) (by rw [hI.len]; exact hle2)
        obtain ⟨pu, _, _, _, _, _, q0, q1, q2, q3⟩ := hI.q.cells (i := F) (by rw [hI.len]; exact hFl)
        have HI := hide hI
        clear hI
        have hgd : decide ((B : Int) ≤ 2 * (a : Int) + 2) = true := by simp; omega
        have haI2 : (B : Int) < (items.length : Int) := by omega
        have hUI2 : (F : Int) < (items.length : Int) := by omega
        go_wp2_with fail
        go_region_held3 (fun w' => w'.cell? ⟨qb, 0, none⟩ = some (.slice (some ⟨g, 0, none⟩) items.length cap) ∧ w'.cell? ⟨qb, 1, none⟩ = some (.func (.func 74) #[] #[]) ∧
            w'.cell? ⟨g, B * 4, none⟩ = some (.string ⟨pa.1.toArray⟩) ∧ w'.cell? ⟨g, B * 4 + 1, none⟩ = some (.string ⟨pa.2.1.toArray⟩) ∧ w'.cell? ⟨g, B * 4 + 2, none⟩ = some (.float .f64 pa.2.2.1) ∧ w'.cell? ⟨g, B * 4 + 3, none⟩ = some (.int .i64 pa.2.2.2) ∧
            w'.cell? ⟨g, F * 4, none⟩ = some (.string ⟨pu.1.toArray⟩) ∧ w'.cell? ⟨g, F * 4 + 1, none⟩ = some (.string ⟨pu.2.1.toArray⟩) ∧ w'.cell? ⟨g, F * 4 + 2, none⟩ = some (.float .f64 pu.2.2.1) ∧ w'.cell? ⟨g, F * 4 + 3, none⟩ = some (.int .i64 pu.2.2.2)) (go_keep)
          (first | (go_at_call 74; refine (lighter_any _ _ _ _ _ _ _ _ _).mono ?_; rintro e w2 ⟨bb, rfl, hb⟩; have k0 := (hb.cell (p := ⟨qb, 0, none⟩) hql).trans c0; have k1 := (hb.cell (p := ⟨qb, 1, none⟩) hql).trans c1; have k2 := (hb.cell (p := ⟨g, B * 4, none⟩) hgl).trans p0; have k3 := (hb.cell (p := ⟨g, B * 4 + 1, none⟩) hgl).trans p1; have k4 := (hb.cell (p := ⟨g, B * 4 + 2, none⟩) hgl).trans p2; have k5 := (hb.cell (p := ⟨g, B * 4 + 3, none⟩) hgl).trans p3; have k6 := (hb.cell (p := ⟨g, F * 4, none⟩) hgl).trans q0; have k7 := (hb.cell (p := ⟨g, F * 4 + 1, none⟩) hgl).trans q1; have k8 := (hb.cell (p := ⟨g, F * 4 + 2, none⟩) hgl).trans q2; have k9 := (hb.cell (p := ⟨g, F * 4 + 3, none⟩) hgl).trans q3; have HB2 := hide (QI.below (QI.same HI.out (drew_same wr)) hb); clear hb))
        clear k0 k1 k2 k3 k4 k5 k6 k7 k8 k9 c0 c1 p0 p1 p2 p3 q0 q1 q2 q3
        cases bb with
        | false =>
          go_wp2
          go_roundw
          case rel => exact ⟨F, B + 1, its, hF, by omega, by omega, rfl, by go_num, HB2.out⟩
          case measure => simp [intOf]; omega
        | true =>
          go_wp2
          go_roundw
          case rel => exact ⟨B, B + 1, its, Or.inr ⟨hB1, hle2⟩, by omega, by omega, rfl, by go_num, HB2.out⟩
          case measure => simp [intOf]; omega
      · have c0 := cellAt hI.q.blk (j := 0) (v := .slice sa items.length cap) rfl
        have HI := hide hI
        clear hI
        by_cases hB3 : B ≤ 2 * a + 2
        · have hB4 : items.length ≤ B := by omega
          have hgd : decide ((B : Int) ≤ 2 * (a : Int) + 2) = true := by simp; omega
          by_cases hFa : F = a
          · subst hFa
            go_wp2_with fail
            (try simp only [Exit.inBlock, Exit.then]); refine bodyPost_ret (results_none rfl _ _ _) rfl ?_
            exact ⟨rfl, its, HI.out⟩
          · have hne : ((F : Int) == (a : Int)) = false := by simp; omega
            have hF2 : 2 * a + 1 ≤ F ∧ F < items.length := by omega
            go_wp2_with fail
            refine (swap_any wr base qb a F _ its (by rw [HI.out.len]; exact hn) (by rw [HI.out.len]; omega) (by rw [HI.out.len]; omega) (by omega) HI.out.q).mono ?_
            rintro e w3 ⟨rfl, hK3, its3, hl3, hm3, hq3⟩
            have HI3 : Hid (QI w w3 base qb (.slice sa items.length cap) items its3) := ⟨HI.out.kept.trans hK3, hl3.trans HI.out.len, fun e => (hm3 e).trans (HI.out.mem e), hq3⟩
            clear hK3 hl3 hm3 hq3
            go_wp2
            go_roundw
            case rel => exact ⟨F, its3, Or.inl hF2.2, rfl, HI3.out⟩
            case measure => simp [intOf]; omega
        · have hgd : decide ((B : Int) ≤ 2 * (a : Int) + 2) = false := by simp; omega
          by_cases hFa : F = a
          · subst hFa
            go_wp2_with fail
            (try simp only [Exit.inBlock, Exit.then]); refine bodyPost_ret (results_none rfl _ _ _) rfl ?_
            exact ⟨rfl, its, HI.out⟩
          · have hne : ((F : Int) == (a : Int)) = false := by simp; omega
            have hF2 : 2 * a + 1 ≤ F ∧ F < items.length := by omega
            go_wp2_with fail
            refine (swap_any wr base qb a F _ its (by rw [HI.out.len]; exact hn) (by rw [HI.out.len]; omega) (by rw [HI.out.len]; omega) (by omega) HI.out.q).mono ?_
            rintro e w3 ⟨rfl, hK3, its3, hl3, hm3, hq3⟩
            have HI3 : Hid (QI w w3 base qb (.slice sa items.length cap) items its3) := ⟨HI.out.kept.trans hK3, hl3.trans HI.out.len, fun e => (hm3 e).trans (HI.out.mem e), hq3⟩
            clear hK3 hl3 hm3 hq3
            go_wp2
            go_roundw
            case rel => exact ⟨F, its3, Or.inl hF2.2, rfl, HI3.out⟩
            case measure => simp [intOf]; omega

end Go.Proofs.YtfiebibpgbadlaaGreat
