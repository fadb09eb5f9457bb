import Derived.Test.YtbpfcnhihchemaaProgF
namespace Go.Proofs.Ytbpfcnhihchemaa
open Go.RowKit
set_option linter.unusedVariables false
set_option linter.unusedSimpArgs false
attribute [local go_sem] run_store_float

set_option maxRecDepth 100000 in
set_option maxHeartbeats 3200000 in
theorem sink_any (w : World) (base qb : Nat) (iv : Value) (items : List Item) (hn : items.length ≤ 1000000000) (hQ : QAt w base qb iv items) :
    Calls Try.prog 51 #[.pointer (some ⟨qb, 0, none⟩), .int .i64 0] w fun e w' => e = .returned (.tuple #[]) ∧ ∃ items', QI w w' base qb iv items items' := by
  have hsh := hQ.shape
  obtain ⟨sa, cap, rfl⟩ := hsh
  have HI0 : Hid (QI w w base qb (.slice sa items.length cap) items items) := ⟨Kept.refl _ _, rfl, fun _ => Iff.rfl, hQ⟩
  clear hQ
  go_enter Try.func51, Try.ntmps51
  go_wp2
  go_loopw [1] (fun t wr => ∃ (a : Nat) (its : List Item), (a < items.length ∨ a = 0) ∧ t = .int .i64 (a : Int) ∧ QI w wr base qb (.slice sa items.length cap) items its) (fun t _ => items.length - (intOf t).toNat)
  case atStart => exact ⟨0, items, Or.inr rfl, rfl, HI0.out⟩
  case round =>
    clear HI0
    obtain ⟨a, its, ha, rfl, hI⟩ := hrel
    have HI := hide hI
    clear hI
    have ha9 : a ≤ 1000000000 := by omega
    go_wp2
    go_loopw [4, 5] (fun f b wr => ∃ (F B : Nat) (its : List Item), (F = a ∨ (2 * a + 1 ≤ F ∧ F < items.length)) ∧ 2 * a + 1 ≤ B ∧ B ≤ 2 * a + 3 ∧ f = .int .i64 (F : Int) ∧ b = .int .i64 (B : Int) ∧ QI w wr base qb (.slice sa items.length cap) items its) (fun _ b _ => 2 * a + 3 - (intOf b).toNat)
    case atStart => exact ⟨a, 2 * a + 1, its, Or.inl rfl, by omega, by omega, rfl, by go_num, HI.out⟩
    case round =>
      clear HI
      obtain ⟨F, B, its, hF, hB1, hB2, rfl, rfl, hI⟩ := hrel
      by_cases hle : B ≤ 2 * a + 2 ∧ B < items.length
      · obtain ⟨hle1, hle2⟩ := hle
        have hFl : F < items.length := by omega
        obtain ⟨g, cap', cur', hiv, _⟩ := hI.q.read (by rw [hI.len]; omega)
        simp only [Value.slice.injEq] at hiv
        obtain ⟨rfl, -, rfl⟩ := hiv
        obtain ⟨pa, _, hgl, hql, c0, c1, p0, p1, p2, p3⟩ := hI.q.cells (i := B) (by rw [hI.len]; exact hle2)
        obtain ⟨pu, _, _, _, _, _, q0, q1, q2, q3⟩ := hI.q.cells (i := F) (by rw [hI.len]; exact hFl)
        have HI := hide hI
        clear hI
        have hgd : decide ((B : Int) ≤ 2 * (a : Int) + 2) = true := by simp; omega
        have haI2 : (B : Int) < (items.length : Int) := by omega
        have hUI2 : (F : Int) < (items.length : Int) := by omega
        go_wp2_with fail
        go_region_held3 (fun w' => w'.cell? ⟨qb, 0, none⟩ = some (.slice (some ⟨g, 0, none⟩) items.length cap) ∧ w'.cell? ⟨qb, 1, none⟩ = some (.func (.func 42) #[] #[]) ∧
            w'.cell? ⟨g, B * 4, none⟩ = some (.string ⟨pa.1.toArray⟩) ∧ w'.cell? ⟨g, B * 4 + 1, none⟩ = some (.string ⟨pa.2.1.toArray⟩) ∧ w'.cell? ⟨g, B * 4 + 2, none⟩ = some (.float .f64 pa.2.2.1) ∧ w'.cell? ⟨g, B * 4 + 3, none⟩ = some (.int .i64 pa.2.2.2) ∧
            w'.cell? ⟨g, F * 4, none⟩ = some (.string ⟨pu.1.toArray⟩) ∧ w'.cell? ⟨g, F * 4 + 1, none⟩ = some (.string ⟨pu.2.1.toArray⟩) ∧ w'.cell? ⟨g, F * 4 + 2, none⟩ = some (.float .f64 pu.2.2.1) ∧ w'.cell? ⟨g, F * 4 + 3, none⟩ = some (.int .i64 pu.2.2.2)) (go_keep)
          (first | (go_at_call 42; refine (lighter_any _ _ _ _ _ _ _ _ _).mono ?_; rintro e w2 ⟨bb, rfl, hb⟩; have k0 := (hb.cell (p := ⟨qb, 0, none⟩) hql).trans c0; have k1 := (hb.cell (p := ⟨qb, 1, none⟩) hql).trans c1; have k2 := (hb.cell (p := ⟨g, B * 4, none⟩) hgl).trans p0; have k3 := (hb.cell (p := ⟨g, B * 4 + 1, none⟩) hgl).trans p1; have k4 := (hb.cell (p := ⟨g, B * 4 + 2, none⟩) hgl).trans p2; have k5 := (hb.cell (p := ⟨g, B * 4 + 3, none⟩) hgl).trans p3; have k6 := (hb.cell (p := ⟨g, F * 4, none⟩) hgl).trans q0; have k7 := (hb.cell (p := ⟨g, F * 4 + 1, none⟩) hgl).trans q1; have k8 := (hb.cell (p := ⟨g, F * 4 + 2, none⟩) hgl).trans q2; have k9 := (hb.cell (p := ⟨g, F * 4 + 3, none⟩) hgl).trans q3; have HB2 := hide (QI.below (QI.same HI.out (drew_same wr)) hb); clear hb))
        clear k0 k1 k2 k3 k4 k5 k6 k7 k8 k9 c0 c1 p0 p1 p2 p3 q0 q1 q2 q3
        cases bb with
        | false =>
          go_wp2
          go_roundw
          case rel => exact ⟨F, B + 1, its, hF, by omega, by omega, rfl, by go_num, HB2.out⟩
          case measure => simp [intOf]; omega
        | true =>
          go_wp2
          go_roundw
          case rel => exact ⟨B, B + 1, its, Or.inr ⟨hB1, hle2⟩, by omega, by omega, rfl, by go_num, HB2.out⟩
          case measure => simp [intOf]; omega
      · have c0 := cellAt hI.q.blk (j := 0) (v := .slice sa items.length cap) rfl
        have HI := hide hI
        clear hI
        by_cases hB3 : B ≤ 2 * a + 2
        · have hB4 : items.length ≤ B := by omega
          have hgd : decide ((B : Int) ≤ 2 * (a : Int) + 2) = true := by simp; omega
          by_cases hFa : F = a
          · subst hFa
            go_wp2_with fail
            (try simp only [Exit.inBlock, Exit.then]); refine bodyPost_ret (results_none rfl _ _ _) rfl ?_
            exact ⟨rfl, its, HI.out⟩
          · have hne : ((F : Int) == (a : Int)) = false := by simp; omega
            have hF2 : 2 * a + 1 ≤ F ∧ F < items.length := by omega
            go_wp2_with fail
            refine (swap_any wr base qb a F _ its (by rw [HI.out.len]; exact hn) (by rw [HI.out.len]; omega) (by rw [HI.out.len]; omega) (by omega) HI.out.q).mono ?_
            rintro e w3 ⟨rfl, hK3, its3, hl3, hm3, hq3⟩
            have HI3 : Hid (QI w w3 base qb (.slice sa items.length cap) items its3) := ⟨HI.out.kept.trans hK3, hl3.trans HI.out.len, fun e => (hm3 e).trans (HI.out.mem e), hq3⟩
            clear hK3 hl3 hm3 hq3
            go_wp2
            go_roundw
            case rel => exact ⟨F, its3, Or.inl hF2.2, rfl, HI3.out⟩
            case measure => simp [intOf]; omega
        · have hgd : decide ((B : Int) ≤ 2 * (a : Int) + 2) = false := by simp; omega
          by_cases hFa : F = a
          · subst hFa
            go_wp2_with fail
            (try simp only [Exit.inBlock, Exit.then]); refine bodyPost_ret (results_none rfl _ _ _) rfl ?_
            exact ⟨rfl, its, HI.out⟩
          · have hne : ((F : Int) == (a : Int)) = false := by simp; omega
            have hF2 : 2 * a + 1 ≤ F ∧ F < items.length := by omega
            go_wp2_with fail
            refine (swap_any wr base qb a F _ its (by rw [HI.out.len]; exact hn) (by rw [HI.out.len]; omega) (by rw [HI.out.len]; omega) (by omega) HI.out.q).mono ?_
            rintro e w3 ⟨rfl, hK3, its3, hl3, hm3, hq3⟩
            have HI3 : Hid (QI w w3 base qb (.slice sa items.length cap) items its3) := ⟨HI.out.kept.trans hK3, hl3.trans HI.out.len, fun e => (hm3 e).trans (HI.out.mem e), hq3⟩
            clear hK3 hl3 hm3 hq3
            go_wp2
            go_roundw
            case rel => exact ⟨F, its3, Or.inl hF2.2, rfl, HI3.out⟩
            case measure => simp [intOf]; omega

end Go.Proofs.Ytbpfcnhihchemaa
