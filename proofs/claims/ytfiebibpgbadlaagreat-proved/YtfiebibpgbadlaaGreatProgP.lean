import Derived.Test.YtfiebibpgbadlaaGreatProgO
import Derived.Lib.SliceRun
namespace Go.Proofs.YtfiebibpgbadlaaGreat
open Go.RowKit
set_option linter.unusedVariables false
set_option linter.unusedSimpArgs false

def pbox (l r : Hw.Wd) (b : Nat) (ag : Int) : Obj := .cells #[.string ⟨l.toArray⟩, .string ⟨r.toArray⟩, .float .f64 b, .int .i64 ag] 134 (0, 0)

/-- What looking at a pair leaves. -/
def Looked (w w' : World) (B sb qb L M : Nat) (said R E : List Hw.Rl) : Prop :=
  (Below B w w' ∧ PK qb w w') ∧ ∃ rv' R' E', SS w' B sb qb M rv' R' E' ∧ Hw.Inv L M said R' E' (fun _ => False) ∧ R'.length + Hw.cntIrr L M R' ≤ R.length + Hw.cntIrr L M R ∧ Hw.cntIrr L M R' * 20000 + E'.length ≤ Hw.cntIrr L M R * 20000 + E.length ∧ (Hw.ToIrr R → Hw.ToIrr R')

theorem lt_of_cell {w : World} {b j : Nat} {v : Value} (h : w.cell? ⟨b, j, none⟩ = some v) : b < w.heap.size := World.block_lt_of_cell? w ⟨b, j, none⟩ h

theorem look_box {wr W w5 : World} (l r : Hw.Wd) (b : Nat) (ag : Int) (h : SameW (wr.alloc (pbox l r b ag)) W) (hb : Below W.heap.size W w5) : w5.cell? ⟨wr.heap.size, 0, none⟩ = some (.string ⟨l.toArray⟩) ∧ w5.cell? ⟨wr.heap.size, 1, none⟩ = some (.string ⟨r.toArray⟩) := by
  have h1 : W.heap[wr.heap.size]? = some (pbox l r b ag) := by rw [h.1]; exact heap_alloc_new wr _
  exact ⟨cellAt ((hb.block _ (lt_of_block h1)).trans h1) rfl, cellAt ((hb.block _ (lt_of_block h1)).trans h1) rfl⟩

theorem words_of {L M : Nat} (hL1 : 1 ≤ L) (hL3 : L ≤ 3) {R : List Hw.Rl} (hR : Hw.RulesOk L M R) {a n : Hw.Wd} (ha : Hw.isWord L M a = true) (hn : Hw.NF R a n) : Hw.isWord L M n = true := by
  have ok := hn.1.less hL1 hL3 hR (Hw.isWord_ok ha)
  exact Hw.isWord_of_le hL3 ok.1 ha ok.2

set_option maxRecDepth 100000 in
set_option maxHeartbeats 6400000 in
theorem look_any (w : World) (B sb qb L M : Nat) (rv : Value) (said R Ep E : List Hw.Rl) (l0 r0 : Hw.Wd) (b : Nat) (ag : Int) (hL1 : 1 ≤ L) (hL3 : L ≤ 3) (hM6 : M ≤ 6) (hRl : R.length + Hw.cntIrr L M R ≤ 1093) (hEl : E.length ≤ 100000000)
    (hInv : Hw.Inv L M said R Ep (fun _ => False)) (hp : (l0, r0) ∈ Ep) (hp1 : ∀ e, e ∈ Ep → e = (l0, r0) ∨ e ∈ E) (hp2 : ∀ e, e ∈ E → e ∈ Ep) (hS : SS w B sb qb M rv R E) :
    Calls Tryz.prog 77 #[.pointer (some ⟨sb, 0, none⟩), .agg #[.string ⟨l0.toArray⟩, .string ⟨r0.toArray⟩, .float .f64 b, .int .i64 ag]] w fun e w' => e = .returned (.tuple #[]) ∧ Looked w w' B sb qb L M said R E := by
  obtain ⟨hw1, hw2, _⟩ := hInv.pend _ hp
  obtain ⟨m, hm⟩ := hS.mx
  have hsl : sb < w.heap.size := by
    obtain ⟨ag, iv, items, h1, _⟩ := hS.st
    exact lt_of_block h1
  have c1 : w.cell? ⟨sb, 1, none⟩ = some rv := by
    obtain ⟨ag, iv, items, h1, _⟩ := hS.st
    exact cellAt h1 rfl
  have hBs := hS.size
  have HW1 := hide hw1
  have HW2 := hide hw2
  have HInv := hide hInv
  have HS := hide hS
  have HP := hide hp
  have HP1 := hide hp1
  have HP2 := hide hp2
  obtain ⟨sa, cap, hrv⟩ := hS.rul.shape
  subst hrv
  clear hInv hS hp hp1 hp2 hw1 hw2
  go_enter Tryz.func77, Tryz.ntmps77
  go_wp2
  go_region_held3 (fun w' => w'.cell? ⟨sb, 1, none⟩ = some (.slice sa R.length cap) ∧ w'.cell? ⟨w.heap.size, 0, none⟩ = some (.string ⟨l0.toArray⟩) ∧ w'.cell? ⟨w.heap.size, 1, none⟩ = some (.string ⟨r0.toArray⟩)) (go_keep)
    (first
      | (have hh2 := HB6; clear hh2; go_at_call 33; refine (turn_any r0 R L M B _ _ m hL1 hL3 hM6 HW2.out HInv.out.rules (by omega) (by exact (HS.out.below HB6.out).rul) (by exact (HB6.out.cell (p := ⟨0, 0, none⟩) (lt_of_cell hm)).trans hm)).mono ?_; rintro e w6 ⟨r, rfl, hnf2, hb7⟩; have k8 : w6.cell? ⟨sb, 1, none⟩ = some (.slice sa R.length cap) := (hb7.cell (p := ⟨sb, 1, none⟩) (lt_of_cell k1)).trans k1; have k9 : w6.cell? ⟨w.heap.size, 0, none⟩ = some (.string ⟨l0.toArray⟩) := (hb7.cell (p := ⟨w.heap.size, 0, none⟩) (lt_of_cell k6)).trans k6; have k10 : w6.cell? ⟨w.heap.size, 1, none⟩ = some (.string ⟨r0.toArray⟩) := (hb7.cell (p := ⟨w.heap.size, 1, none⟩) (lt_of_cell k7)).trans k7; have HNF2 := hide hnf2; have HB7 := hide (HB6.out.trans (hb7.mono HB6.out.size)); clear hnf2 hb7)
      | (go_at_call 33; refine (turn_any l0 R L M B _ _ m hL1 hL3 hM6 HW1.out HInv.out.rules (by omega) (by exact HS.out.rul.call (pbox l0 r0 b ag) ⟨rfl, rfl, rfl, rfl⟩) (by exact ((Kept.refl [] w).alloc _).cell hm (by simp))).mono ?_; rintro e w5 ⟨l, rfl, hnf, hb5⟩; have hb6 : Below w.heap.size w w5 := below_call (pbox l0 r0 b ag) (by exact ⟨rfl, rfl, rfl, rfl⟩) hb5; have k1 : w5.cell? ⟨sb, 1, none⟩ = some (.slice sa R.length cap) := (hb6.cell (p := ⟨sb, 1, none⟩) hsl).trans c1; have k5 := look_box l0 r0 b ag (by exact ⟨rfl, rfl, rfl, rfl⟩) hb5; have k6 := k5.1; have k7 := k5.2; have HNF := hide hnf; have HB6 := hide hb6; have hbx := lt_of_cell k6; clear hnf hb5 hb6 k5))
  have hlw := words_of hL1 hL3 HInv.out.rules HW1.out HNF.out
  have hrw := words_of hL1 hL3 HInv.out.rules HW2.out HNF2.out
  have HLW := hide hlw
  have HRW := hide hrw
  clear k1 k6 k7 k8 k9 k10 hlw hrw hbx c1
  go_wp2_with fail
  refine (stand_any ⟨l.toArray⟩ ⟨r.toArray⟩ L _ hL1 hL3 (by exact Hw.isWord_ok HLW.out) (by exact Hw.isWord_ok HRW.out)).mono ?_
  rintro e w7 ⟨rfl, hb8⟩
  have HB8 : Hid (Below w.heap.size w w7) := HB7.out.trans (hb8.mono HB7.out.size)
  clear hb8
  rw [show (⟨l.toArray⟩ : ByteArray).data.toList = l by simp, show (⟨r.toArray⟩ : ByteArray).data.toList = r by simp]
  by_cases h1 : Hw.fold L l < Hw.fold L r
  · have hst : Hw.stand L l r = 1 := by simp [Hw.stand, h1]
    rw [hst]
    have H1 := hide h1
    clear hst h1
    go_wp2_with fail
    refine (add_any _ B sb qb L M _ said R Ep E (l0, r0) l r r l hL1 hL3 hM6 hRl hEl HInv.out HP.out HP1.out HP2.out HNF.out HNF2.out (Or.inr ⟨rfl, rfl⟩) H1.out (by exact HS.out.below HB8.out)).mono ?_
    rintro e w9 ⟨rfl, hb9, rv', R', E', a1, a2, a3, a4, a5, a6⟩
    have R1 : Hid (Looked w w9 B sb qb L M said R E) := ⟨⟨(HB8.out.mono HS.out.size).trans hb9.1, (PK.of_below HB8.out HS.out.qlt).trans hb9.2⟩, rv', R', E', a1, a2, by omega, by omega, fun _ => a6⟩
    clear hb9 a1 a2 a3 a4 a5 a6
    go_wp2
    go_end0
    exact ⟨rfl, R1.out⟩
  · by_cases h2 : Hw.fold L r < Hw.fold L l
    · have hst : Hw.stand L l r = 2 := by simp [Hw.stand, h1, h2]
      rw [hst]
      have H1 := hide h2
      clear hst h1 h2
      go_wp2_with fail
      refine (add_any _ B sb qb L M _ said R Ep E (l0, r0) l r l r hL1 hL3 hM6 hRl hEl HInv.out HP.out HP1.out HP2.out HNF.out HNF2.out (Or.inl ⟨rfl, rfl⟩) H1.out (by exact HS.out.below HB8.out)).mono ?_
      rintro e w9 ⟨rfl, hb9, rv', R', E', a1, a2, a3, a4, a5, a6⟩
      have R1 : Hid (Looked w w9 B sb qb L M said R E) := ⟨⟨(HB8.out.mono HS.out.size).trans hb9.1, (PK.of_below HB8.out HS.out.qlt).trans hb9.2⟩, rv', R', E', a1, a2, by omega, by omega, fun _ => a6⟩
      clear hb9 a1 a2 a3 a4 a5 a6
      go_wp2
      go_end0
      exact ⟨rfl, R1.out⟩
    · have hst : Hw.stand L l r = 0 := by simp [Hw.stand, h1, h2]
      rw [hst]
      have hlr : l = r := Hw.fold_inj hL3 M l r HLW.out HRW.out (by omega)
      have HLR := hide hlr
      clear hst h1 h2 hlr
      go_wp2
      go_end0
      refine ⟨rfl, ⟨HB8.out.mono HS.out.size, PK.of_below HB8.out HS.out.qlt⟩, _, R, E, HS.out.below HB8.out, Hw.Inv.same hL1 hL3 HInv.out HP1.out HP2.out HNF.out.1 (by rw [HLR.out]; exact HNF2.out.1), Nat.le_refl _, Nat.le_refl _, fun h => h⟩
end Go.Proofs.YtfiebibpgbadlaaGreat
namespace Go.Proofs.YtfiebibpgbadlaaGreat
open Go.RowKit
set_option linter.unusedVariables false
set_option linter.unusedSimpArgs false

theorem eql_nil (w : World) (a : Option Addr) (n c : Nat) : (binOp .eql 68 (.slice a n c) (.slice none 0 0)).run Tryz.prog w = .ok (.bool a.isNone) w :=
  Lib.run_eql_slice_nil w _ _ a n c 0 0 Tryz.underlying68
attribute [local go_sem] eql_nil

theorem clone_cells {w : World} {B g n cap : Nat} {R : List Hw.Rl} (h : RulesAt w B (.slice (some ⟨g, 0, none⟩) n cap) R) : ∀ j u, (rcells R)[j]? = some u → w.cell? ((⟨g, 0, none⟩ : Addr).add j) = some u := by
  intro j u hj
  have hadd : (⟨g, 0, none⟩ : Addr).add j = ⟨g, j, none⟩ := by unfold Addr.add; split <;> simp_all
  rw [hadd]
  rcases h.2 with ⟨h1, _⟩ | ⟨g', cap', cur, h1, hb, hg, hn, hm, hsz, ht⟩
  · simp at h1
  · simp only [Value.slice.injEq, Option.some.injEq, Addr.mk.injEq] at h1
    obtain ⟨⟨rfl, -, -⟩, -, rfl⟩ := h1
    rw [cell_of_row w g j cur _ _ hg]
    rw [← ht, List.getElem?_take] at hj
    split at hj
    · simpa using hj
    · cases hj

theorem clone_one (R : List Hw.Rl) : ∀ u ∈ rcells R, u.oneCell' = true := by
  intro u hu
  unfold rcells at hu
  rw [List.mem_flatMap] at hu
  obtain ⟨a, _, hu⟩ := hu
  simp at hu
  rcases hu with rfl | rfl <;> rfl

theorem clone_fin {w w0 w3 : World} {R : List Hw.Rl} {v3 : Value} {o : Obj} (h0 : SameW (w.alloc o) w0) (hown : w3.ownsRow w.heap.size 77 2 v3 R.length (rcells R)) (hgrow : w0.grownBy w3 (Value.slice (some ⟨w.heap.size, 0, none⟩) 0 0).ownBlock) :
    Below w.heap.size w w3 ∧ RulesAt w3 w.heap.size v3 R := by
  refine ⟨?_, ?_⟩
  · have hK : Kept [w.heap.size] w w3 := (((Kept.refl _ w).alloc o).trans (h0.kept _)).trans (Kept.of_grown hgrow (by simp [Value.ownBlock]))
    exact hK.below (Nat.le_refl _) (by simp)
  · exact hown

theorem clone_own {w w0 : World} (h0 : SameW (w.alloc (.cells #[] 77)) w0) : w0.ownsRow w.heap.size 77 2 (.slice (some ⟨w.heap.size, 0, none⟩) 0 0) 0 [] := by
  refine ⟨rfl, .inr ⟨w.heap.size, 0, #[], rfl, Nat.le_refl _, ?_, Nat.le_refl _, Nat.zero_le _, rfl, rfl⟩⟩
  rw [h0.1]; exact heap_alloc_new w _

set_option maxRecDepth 100000 in
set_option maxHeartbeats 3200000 in
theorem clone_any (w : World) (B : Nat) (rv : Value) (R : List Hw.Rl) (hRl : R.length ≤ 65536) (hR : RulesAt w B rv R) :
    Calls Tryz.prog 72 #[rv] w fun e w' => ∃ rv', e = .returned rv' ∧ Below w.heap.size w w' ∧ RulesAt w' w.heap.size rv' R := by
  have HR := hide hR
  rcases hR.2 with ⟨rfl, h2⟩ | ⟨g, cap, cur, rfl, hb, hg, hn, hm, hsz, ht⟩
  · have hR0 : R = [] := List.length_eq_zero_iff.1 h2
    subst hR0
    clear HR hR
    go_enter Tryz.func72, Tryz.ntmps72
    go_wp2
    go_ret
    exact ⟨_, rfl, Below.refl _ _, World.ownsRow_nil _ _ _ _⟩
  · obtain ⟨i0, hi0, hz0, hz1, hz2⟩ := info_parts Tryz.infoRule
    have HI0 := hide hi0
    have HZ0 := hide hz0
    have HZ1 := hide hz1
    have HZ2 := hide hz2
    clear hi0 hz0 hz1 hz2 hR hb hg hn hm hsz ht
    go_enter Tryz.func72, Tryz.ntmps72
    go_wp2_with (at_builtin; refine wpList_append_exact _ rfl (.tmp 5) (.tmp 6) 68 rfl w.heap.size 77 i0 (.agg #[.string ⟨#[]⟩, .string ⟨#[]⟩]) 2 32 Tryz.underlying68 HI0.out HZ0.out HZ1.out HZ2.out rfl (by decide) (.slice (some ⟨w.heap.size, 0, none⟩) 0 0) 0 [] rfl ?c1 ⟨g, 0, none⟩ R.length cap (rcells R) rfl ?c2 ?c3 (clone_one R) ?c4 ?c5 ?c6 ?_)
    case c1 => exact clone_own ⟨rfl, rfl, rfl, rfl⟩
    case c2 => rw [length_rcells]
    case c3 => exact clone_cells (HR.out.kept (S := []) ((Kept.refl [] w).alloc _) (by simp))
    case c4 => unfold maxLen; omega
    case c5 => omega
    case c6 => simp
    intro v3 w3 hown hgrow hex
    have R1 := hide (clone_fin (o := .cells #[] 77) (by exact ⟨rfl, rfl, rfl, rfl⟩) hown hgrow)
    clear hown hgrow hex
    go_wp2
    go_ret
    exact ⟨_, rfl, R1.out⟩
end Go.Proofs.YtfiebibpgbadlaaGreat
