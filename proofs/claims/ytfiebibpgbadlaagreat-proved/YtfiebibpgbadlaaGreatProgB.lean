import Derived.Test.YtfiebibpgbadlaaGreatProgA
import Derived.WalkMore
import Derived.WalkSmall
import Derived.ScopeJumps
namespace Go.Proofs.YtfiebibpgbadlaaGreat
open Go.RowKit
set_option linter.unusedVariables false
set_option linter.unusedSimpArgs false

def str' (s : Hw.Wd) : Value := .string ⟨s.toArray⟩
def rcells (R : List Hw.Rl) : List Value := R.flatMap fun r => [Value.string ⟨r.1.toArray⟩, Value.string ⟨r.2.toArray⟩]
theorem length_rcells (R : List Hw.Rl) : (rcells R).length = R.length * 2 := by
  induction R with
  | nil => rfl
  | cons r R ih => simp [rcells, List.flatMap_cons] at *; omega
theorem rcells_at (R : List Hw.Rl) (i : Nat) (h : i < R.length) : (rcells R)[i * 2]? = some (.string ⟨(R[i]).1.toArray⟩) ∧ (rcells R)[i * 2 + 1]? = some (.string ⟨(R[i]).2.toArray⟩) := by
  induction R generalizing i with
  | nil => simp at h
  | cons r R ih =>
    cases i with
    | zero => simp [rcells]
    | succ i =>
      have := ih i (by simpa using h)
      have e : rcells (r :: R) = Value.string ⟨r.1.toArray⟩ :: Value.string ⟨r.2.toArray⟩ :: rcells R := rfl
      rw [e, show (i + 1) * 2 = i * 2 + 2 by omega]
      simpa using this

/-- Rules, as a slice keeps them. -/
def RulesAt (w : World) (base : Nat) (rv : Value) (R : List Hw.Rl) : Prop := w.ownsRow base 77 2 rv R.length (rcells R)

theorem RulesAt.shape {w : World} {base : Nat} {rv : Value} {R : List Hw.Rl} (h : RulesAt w base rv R) : ∃ sa cap, rv = .slice sa R.length cap := by
  rcases h.2 with ⟨h1, h2⟩ | ⟨g, cap, cur, h1, _⟩
  · exact ⟨none, 0, by rw [h1, h2]⟩
  · exact ⟨_, _, h1⟩

theorem RulesAt.read {w : World} {base : Nat} {rv : Value} {R : List Hw.Rl} (h : RulesAt w base rv R) {i : Nat} (hi : i < R.length) :
    ∃ g cap cur, rv = .slice (some ⟨g, 0, none⟩) R.length cap ∧ base ≤ g ∧ w.heap[g]? = some (.cells cur 77 (0, 0)) ∧ w.cell? ⟨g, i * 2, none⟩ = some (.string ⟨(R[i]).1.toArray⟩) ∧ w.cell? ⟨g, i * 2 + 1, none⟩ = some (.string ⟨(R[i]).2.toArray⟩) := by
  rcases h.2 with ⟨h1, h2⟩ | ⟨g, cap, cur, h1, hb, hg, hn, _, hsz, ht⟩
  · omega
  · refine ⟨g, cap, cur, h1, hb, hg, ?_, ?_⟩
    · rw [cell_of_row w g _ cur _ _ hg]
      have e := (rcells_at R i hi).1
      rw [← ht, List.getElem?_take, if_pos (by omega)] at e
      simpa using e
    · rw [cell_of_row w g _ cur _ _ hg]
      have e := (rcells_at R i hi).2
      rw [← ht, List.getElem?_take, if_pos (by omega)] at e
      simpa using e

theorem RulesAt.kept {w w' : World} {base : Nat} {rv : Value} {R : List Hw.Rl} {S : List Nat} (h : RulesAt w base rv R) (hK : Kept S w w') (hn : ∀ k, k ∈ S → rv.ownBlock ≠ some k) : RulesAt w' base rv R := by
  refine ⟨h.1, ?_⟩
  rcases h.2 with h1 | ⟨g, cap, cur, rfl, hb, hg, r⟩
  · exact .inl h1
  · exact .inr ⟨g, cap, cur, rfl, hb, hK.at hg (fun hm => hn g hm rfl), r⟩

theorem wp_scope_again {P : Program} {a : Act} {w : World} {Q : Exit → Act → World → Prop} {X : Code} (l : Nat) (J : Act → World → Prop) (μ : Act → World → Nat) (hf : findLabel ((Code.label l).seq X) l = some (Code.skip.seq X)) (h0 : J a w)
    (pass : ∀ a w, J a w → X.wp P (Exit.jump l (fun a' w' => J a' w' ∧ μ a' w' < μ a w) Q) a w) : (Code.scope ((Code.label l).seq X)).wp P Q a w := by
  refine wp_scope_jumps l J μ hf (wp_seq (wp_label (show Exit.then _ _ Exit.normal a w from wp_mono (pass a w h0) ?_))) (fun a w h => wp_seq (wp_skip (pass a w h)))
  intro e a' w' hq
  cases e with
  | goto l' => exact ⟨hq.1, hq.2.1⟩
  | normal => exact hq
  | exit id => exact hq
  | ret => exact hq
  | panic ch => exact hq
  | outgrown => exact hq

theorem three_eq (S V : Hw.Wd) (a t : Nat) : ((⟨S.toArray⟩ : ByteArray).extract 0 a ++ ⟨V.toArray⟩ ++ (⟨S.toArray⟩ : ByteArray).extract t S.length) = ⟨(S.take a ++ V ++ S.drop t).toArray⟩ := by
  apply ByteArray.ext
  apply Array.ext'
  rw [toList_three]

def strOf : Value → Hw.Wd | .string b => b.data.toList | _ => []

set_option maxHeartbeats 1600000 in
theorem turn_any (s : Hw.Wd) (R : List Hw.Rl) (L M base : Nat) (rv : Value) (w : World) (m : Int) (hL1 : 1 ≤ L) (hL3 : L ≤ 3) (hM6 : M ≤ 6) (hs : Hw.isWord L M s = true) (hR : Hw.RulesOk L M R) (hRl : R.length ≤ 65536)
    (hrv : RulesAt w base rv R) (hmx : w.cell? ⟨0, 0, none⟩ = some (.int .i64 m)) :
    Calls Tryz.prog 33 #[.string ⟨s.toArray⟩, rv] w fun e w' => ∃ n, e = .returned (.string ⟨n.toArray⟩) ∧ Hw.NF R s n ∧ Below w.heap.size w w' := by
  obtain ⟨sa, cap, rfl⟩ := hrv.shape
  have hpos : 0 < w.heap.size := World.block_lt_of_cell? w ⟨0, 0, none⟩ hmx
  have HRV := hide hrv
  have HR := hide hR
  have HS := hide hs
  clear hrv hR hs
  go_enter Tryz.func33, Tryz.ntmps33
  go_wp2
  refine wp_scope_again 0 (fun a' w' => ∃ (n : Hw.Wd) (u6 u7 u8 u9 u10 u11 u12 u13 u14 u15 u16 u17 u18 u19 u20 u21 u22 u23 u24 u25 u26 u27 u28 u29 u30 u31 u32 u33 u34 u35 : Value), a' = { tmps := #[.string ⟨n.toArray⟩, .slice sa R.length cap, undef, undef, .string ⟨#[]⟩, undef, u6, u7, u8, u9, u10, u11, u12, u13, u14, u15, u16, u17, u18, u19, u20, u21, u22, u23, u24, u25, u26, u27, u28, u29, u30, u31, u32, u33, u34, u35], defers := [] } ∧ Hw.Steps R s n ∧ Below w.heap.size w w') (fun a' _ => Hw.fold L (strOf (a'.tmps.getD 0 undef))) rfl ?_ ?_
  · exact ⟨s, _, _, _, _, _, _, _, _, _, _, _, _, _, _, _, _, _, _, _, _, _, _, _, _, _, _, _, _, _, _, rfl, Hw.Steps.refl _ _, Below.refl _ _⟩
  · rintro a' w' ⟨n, u6, u7, u8, u9, u10, u11, u12, u13, u14, u15, u16, u17, u18, u19, u20, u21, u22, u23, u24, u25, u26, u27, u28, u29, u30, u31, u32, u33, u34, u35, rfl, hST, hBB⟩
    have HBB := hide hBB
    have HST := hide hST
    have hnl := hST.less hL1 hL3 HR.out (Hw.isWord_ok HS.out)
    have hnw := Hw.isWord_of_le hL3 hnl.1 HS.out hnl.2
    have hn6 : n.length ≤ 6 := by have := Hw.isWord_len hnw; omega
    have HN := hide hnw
    clear hST hBB hnl hnw
    go_wp2
    go_loopw [0, 10] (fun q t wq => ∃ k : Nat, k ≤ R.length ∧ q = .string ⟨n.toArray⟩ ∧ t = .int .i64 k ∧ Below w.heap.size w wq ∧ Hid (∀ j (h : j < R.length), j < k → ¬ Hw.Occ (R[j]).1 n)) (fun _ t _ => R.length - (intOf t).toNat)
    case atStart => exact ⟨0, Nat.zero_le _, rfl, rfl, HBB.out, fun j h hj => by omega⟩
    case round =>
      obtain ⟨k, hk, rfl, rfl, hB, hno⟩ := hrel
      have hmw : wr.cell? ⟨0, 0, none⟩ = some (.int .i64 m) := (hB.cell hpos).trans hmx
      have HB := hide hB
      clear hB
      by_cases hlt : k < R.length
      · obtain ⟨g, cap', cur, hrv', _, hgg, hc0, hc1⟩ := HRV.out.read hlt
        simp only [Value.slice.injEq] at hrv'
        obtain ⟨rfl, -, rfl⟩ := hrv'
        have hgl : g < w.heap.size := lt_of_block hgg
        have d0 := (HB.out.cell (p := ⟨g, k * 2, none⟩) hgl).trans hc0
        have d1 := (HB.out.cell (p := ⟨g, k * 2 + 1, none⟩) hgl).trans hc1
        clear hc0 hc1 hgg
        obtain ⟨⟨f, t⟩, hft⟩ : ∃ p, R[k] = p := ⟨_, rfl⟩
        rw [hft] at d0 d1
        have HFT := hide hft
        clear hft
        have hmem : (f, t) ∈ R := by rw [← HFT.out]; exact List.getElem_mem hlt
        have hfl : f.length ≤ 6 := by have := Hw.isWord_len (HR.out.from_ _ hmem); simp only at this; omega
        have htl : t.length ≤ 6 := by have := Hw.isWord_len (HR.out.to_ _ hmem); simp only at this; omega
        have HM := hide hmem
        clear hmem
        go_wp2_with fail
        refine (Tryz.strings_Index ⟨n.toArray⟩ ⟨f.toArray⟩ m _ (by simp [ByteArray.size]; omega) (by exact ((Kept.refl [] wr).alloc _).cell hmw (by simp))).mono ?_
        rintro e w1 ⟨rfl, rfl⟩
        rw [show (⟨n.toArray⟩ : ByteArray).data.toList = n by simp, show (⟨f.toArray⟩ : ByteArray).data.toList = f by simp]
        rcases Hw.index_cases n f with ⟨h1, hnone⟩ | ⟨i, hi, h1, hocc⟩
        · rw [h1]
          have hno2 : ¬ Hw.Occ f n := fun ho => by
            have := (Hw.contains_iff n f).2 ho
            unfold Lib.contains at this
            rw [h1] at this
            simp at this
          have HNO := hide hno2
          clear h1 hnone hno2
          go_wp2
          go_roundw
          case rel => exact ⟨k + 1, by omega, rfl, by go_num, HB.out.alloc (by have := HB.out.size; omega) _, fun j h hj => by
              by_cases hjk : j = k
              · subst hjk; rw [HFT.out]; exact HNO.out
              · exact hno.out j h (by omega)⟩
          case measure => simp [intOf]; omega
        · rw [h1]
          have hsp := Hw.occAt_split hocc
          have hroom : i + f.length ≤ n.length := by
            have := congrArg List.length hsp
            simp at this; omega
          have hsp2 := hide hsp
          clear h1 hocc hsp
          have hiI : (i : Int) ≤ (n.length : Int) := by omega
          have hroomI : (i : Int) + (f.length : Int) ≤ (n.length : Int) := by omega
          have hadd1 : ¬ (9223372036854775807 < i + t.length) := by omega
          have hadd2 : ¬ (9223372036854775807 < i + t.length + (n.length - (i + f.length))) := by omega
          go_wp2_with fail
          go_quiet (fail)
          go_wp2
          go_step3
          have h3 := three_eq n t i (i + f.length)
          simp only [Exit.inBlock, Exit.then, Exit.jump]
          refine ⟨rfl, ⟨n.take i ++ t ++ n.drop (i + f.length), _, _, _, _, _, _, _, _, _, _, _, _, _, _, _, _, _, _, _, _, _, _, _, _, _, _, _, _, _, _, by rw [h3], HST.out.trans (Hw.Steps.one ⟨(f, t), HM.out, n.take i, n.drop (i + f.length), hsp2.out, rfl⟩), ?_⟩, ?_⟩
          · exact below_drewN (HB.out.alloc (by have := HB.out.size; omega) _) nq
          · show Hw.fold L (strOf (Value.string ((⟨n.toArray⟩ : ByteArray).extract 0 i ++ ⟨t.toArray⟩ ++ (⟨n.toArray⟩ : ByteArray).extract (i + f.length) n.length))) < Hw.fold L (strOf (Value.string ⟨n.toArray⟩))
            rw [h3]
            have hl := Hw.Red.less hL1 hL3 HR.out (Hw.isWord_ok HN.out) ⟨(f, t), HM.out, n.take i, n.drop (i + f.length), hsp2.out, rfl⟩
            simpa [strOf] using hl.2
      · go_wp2
        simp only [Exit.jump]
        go_ret
        exact ⟨n, rfl, ⟨HST.out, fun r hr => by
          obtain ⟨j, hj, e⟩ := List.getElem_of_mem hr
          have := hno.out j hj (by omega)
          rw [e] at this; exact this⟩, HB.out⟩
end Go.Proofs.YtfiebibpgbadlaaGreat
