import Derived.Test.YtfiebibpgbadlaaGreatProgP
import Derived.Lib.AppendZeros
namespace Go.Proofs.YtfiebibpgbadlaaGreat
open Go.RowKit
set_option linter.unusedVariables false
set_option linter.unusedSimpArgs false

theorem Tryz.infoSaid : (Tryz.prog.info? 102).map (fun i => (i.zero, i.size, i.bytes)) = some (some (.agg #[.string ⟨#[]⟩, .string ⟨#[]⟩]), 2, 32) := by kernel_rfl

/-- Pairs that are said, as a slice keeps them. -/
def PairsAt (w : World) (base : Nat) (sv : Value) (said : List Hw.Rl) : Prop := w.ownsRow base 102 2 sv said.length (rcells said)
theorem PairsAt.shape {w : World} {base : Nat} {sv : Value} {said : List Hw.Rl} (h : PairsAt w base sv said) : ∃ sa cap, sv = .slice sa said.length cap := by
  rcases h.2 with ⟨h1, h2⟩ | ⟨g, cap, cur, h1, _⟩
  · exact ⟨none, 0, by rw [h1, h2]⟩
  · exact ⟨_, _, h1⟩
theorem PairsAt.kept {w w' : World} {base : Nat} {sv : Value} {said : List Hw.Rl} {S : List Nat} (h : PairsAt w base sv said) (hK : Kept S w w') (hS : ∀ k, k ∈ S → ∀ c fr, w.heap[k]? ≠ some (.cells c 102 fr)) : PairsAt w' base sv said := by
  refine ⟨h.1, ?_⟩
  rcases h.2 with h1 | ⟨g, cap, cur, h1, hb, hg, r⟩
  · exact .inl h1
  · exact .inr ⟨g, cap, cur, h1, hb, hK.at hg (fun hm => hS g hm _ _ hg), r⟩


theorem below_call_drew (w : World) (o : Obj) : Below w.heap.size w (w.drew.alloc o) := ((Below.refl w.heap.size w).drew).alloc (Nat.le_refl _) _
theorem own_new {w w' : World} {cs : Array Value} {t : TypeId} {sz cap : Nat} (hw : SameW (w.drew.alloc (.cells cs t)) w') (hcap : cap ≤ maxLen) (hs : cs.size = cap * sz) : w'.ownsRow w.heap.size t sz (.slice (some ⟨w.heap.size, 0, none⟩) 0 cap) 0 [] := by
  refine ⟨by simp, .inr ⟨w.heap.size, cap, cs, rfl, Nat.le_refl _, ?_, Nat.zero_le _, hcap, hs, by simp⟩⟩
  rw [hw.1]; exact heap_alloc_new w.drew _
theorem grow_run (w : World) (N : Nat) (hN : N ≤ 12) : ∃ cap cs, (∀ ty, (Builtin.append_ #[84, 3] ty #[.slice none 0 0, .int .i64 ((N : Int) + 1)]).run Tryz.prog w = .ok (.slice (some ⟨w.heap.size, 0, none⟩) (N + 1) cap) (w.drew.alloc (.cells cs 102))) ∧ N + 1 ≤ cap ∧
    ∀ w', SameW (w.drew.alloc (.cells cs 102)) w' → w'.ownsRow w.heap.size 102 2 (.slice (some ⟨w.heap.size, 0, none⟩) 0 cap) 0 [] := by
  obtain ⟨i, hi, hz, hs, hb⟩ := info_parts Tryz.infoSaid
  have hge := grownCap_ge w (N + 1) 0 102
  refine ⟨_, _, fun ty => Lib.run_append_nil_zeros (P := Tryz.prog) w 84 3 ty 102 i (.agg #[.string ⟨#[]⟩, .string ⟨#[]⟩]) .i64 .i64 Tryz.underlying84 Tryz.underlying3 hi hz (N + 1) (by omega) (by omega) (by omega) (by rw [hb]; omega), hge, ?_⟩
  intro w' hw
  refine own_new hw (grownCap_le_maxLen w (N + 1) 0 _ (by unfold maxLen; omega)) ?_
  rw [Array.size_append, size_zeroCells, size_zeroCells]
  have : (Value.agg #[.string ⟨#[]⟩, .string ⟨#[]⟩]).cells.size = 2 := rfl
  rw [this]; omega

set_option maxRecDepth 100000 in
set_option maxHeartbeats 3200000 in
theorem grow_any (w : World) (N : Nat) (hN : N ≤ 12) :
    Calls Tryz.prog 81 #[.slice none 0 0, .int .i64 ((N : Int) + 1)] w fun e w' => ∃ g cap, e = .returned (.slice (some ⟨g, 0, none⟩) 0 cap) ∧ Below w.heap.size w w' ∧ w'.ownsRow w.heap.size 102 2 (.slice (some ⟨g, 0, none⟩) 0 cap) 0 [] := by
  obtain ⟨cap, cs, hrz, hcap, hown⟩ := grow_run w N hN
  have HOWN := hide hown
  clear hown
  go_enter Tryz.func81, Tryz.ntmps81
  go_wp2_with (at_builtin; refine Lib.wpList_append_run _ rfl (.tmp 20) (.tmp 21) 84 3 rfl (.slice none 0 0) (.int .i64 ((N : Int) + 1)) rfl rfl _ _ (hrz _) ?_)
  go_ret
  exact ⟨_, _, rfl, (below_call_drew w _), HOWN.out _ ⟨rfl, rfl, rfl, rfl⟩⟩

/-- While pairs are put together: of the first k lists. -/
def cat2 (said : List Hw.Rl) (p : Hw.Rl) (k : Nat) : List Hw.Rl := if k = 0 then [] else if k = 1 then said else said ++ [p]
theorem PairsAt.cells {w : World} {base : Nat} {a : Addr} {n cap : Nat} {said : List Hw.Rl} (h : PairsAt w base (.slice (some a) n cap) said) : ∀ j u, (rcells said)[j]? = some u → w.cell? (a.add j) = some u := by
  intro j u hj
  rcases h.2 with ⟨h1, _⟩ | ⟨g', cap', cur, h1, hb, hg, hn, hm, hsz, ht⟩
  · simp at h1
  · simp only [Value.slice.injEq, Option.some.injEq] at h1
    obtain ⟨rfl, -, rfl⟩ := h1
    have hadd : (⟨g', 0, none⟩ : Addr).add j = ⟨g', j, none⟩ := by unfold Addr.add; split <;> simp_all
    rw [hadd, cell_of_row w g' j cur _ _ hg]
    rw [← ht, List.getElem?_take] at hj
    split at hj
    · simpa using hj
    · cases hj

theorem rcells_snoc (said : List Hw.Rl) (p : Hw.Rl) : rcells (said ++ [p]) = rcells said ++ rcells [p] := by simp [rcells]
theorem pair_cells {w : World} {pg : Nat} {p : Hw.Rl} {t : TypeId} (hp : w.heap[pg]? = some (.cells #[.string ⟨p.1.toArray⟩, .string ⟨p.2.toArray⟩] t (0, 0))) : ∀ j u, (rcells [p])[j]? = some u → w.cell? ((⟨pg, 0, none⟩ : Addr).add j) = some u := by
  intro j u hj
  have hadd : (⟨pg, 0, none⟩ : Addr).add j = ⟨pg, j, none⟩ := by unfold Addr.add; split <;> simp_all
  rw [hadd]
  exact cellAt hp (by simpa [rcells] using hj)
/-- a row of one's own is new: what is put behind it leaves the rest. -/
theorem below_grown {w wr w3 : World} {e : TypeId} {sz n : Nat} {v : Value} {xs : List Value} (hb : Below w.heap.size w wr) (hown : wr.ownsRow w.heap.size e sz v n xs) (hg : wr.grownBy w3 v.ownBlock) : Below w.heap.size w w3 := by
  refine hb.trans ((Kept.of_grown (S := v.ownBlock.toList) hg (fun k hk => by simp [hk])).below hb.size ?_)
  intro k hk
  have hk' : v.ownBlock = some k := by simpa using hk
  rcases hown.2 with ⟨rfl, _⟩ | ⟨g, cap, cur, rfl, hbg, _⟩
  · simp [Value.ownBlock] at hk'
  · simp [Value.ownBlock] at hk'; omega

set_option maxRecDepth 100000 in
set_option maxHeartbeats 3200000 in
theorem concat_any (wr0 : World) (vg pg : Nat) (sa : Option Addr) (cap : Nat) (said : List Hw.Rl) (p : Hw.Rl) (h12 : said.length < 12) (hs : PairsAt wr0 0 (.slice sa said.length cap) said)
    (c0 : wr0.cell? ⟨vg, 0, none⟩ = some (.slice sa said.length cap)) (c1 : wr0.cell? ⟨vg, 1, none⟩ = some (.slice (some ⟨pg, 0, none⟩) 1 1)) (hp : wr0.heap[pg]? = some (.cells #[.string ⟨p.1.toArray⟩, .string ⟨p.2.toArray⟩] 102 (0, 0))) :
    Calls Tryz.prog 51 #[.slice (some ⟨vg, 0, none⟩) 2 2] wr0 fun e w' => ∃ ov, e = .returned ov ∧ Below wr0.heap.size wr0 w' ∧ PairsAt w' wr0.heap.size ov (said ++ [p]) := by
  obtain ⟨i0, hi0, hz0, hz1, hz2⟩ := info_parts Tryz.infoSaid
  have HI0 := hide hi0
  have HZ0 := hide hz0
  have HZ1 := hide hz1
  have HZ2 := hide hz2
  clear hi0 hz0 hz1 hz2
  have HS := hide hs
  have HP := hide hp
  have C0 := hide c0
  have C1 := hide c1
  clear hs hp
  go_enter Tryz.func51, Tryz.ntmps51
  go_wp2_with fail
  go_loopw [3, 11] (fun sz iv wr => wr0 = wr ∧ ∃ k : Nat, k ≤ 2 ∧ iv = .int .i64 (k : Int) ∧ sz = .int .i64 ((cat2 said p k).length : Int)) (fun _ iv _ => 2 - (intOf iv).toNat)
  case atStart => exact ⟨rfl, 0, by omega, rfl, rfl⟩
  case round =>
    obtain ⟨rfl, k, hk, rfl, rfl⟩ := hrel
    match k, hk with
    | 0, _ =>
      have e : ((cat2 said p 0).length : Int) = 0 := rfl
      rw [e]
      have hb : decide ((said.length : Int) < 0) = false := by simp
      go_wp2
      go_roundw
      case rel => exact ⟨trivial, 1, by omega, rfl, by simp [cat2]⟩
      case measure => simp [intOf]
    | 1, _ =>
      have e : ((cat2 said p 1).length : Int) = (said.length : Int) := rfl
      rw [e]
      have hb : decide ((said.length : Int) + 1 < 0) = false := by simp; omega
      go_wp2
      go_roundw
      case rel => exact ⟨trivial, 2, by omega, rfl, by simp [cat2]⟩
      case measure => simp [intOf]
    | 2, _ =>
      have e : ((cat2 said p 2).length : Int) = (said.length : Int) + 1 := by simp [cat2]
      rw [e]
      go_wp2_with fail
      refine (grow_any _ said.length (by omega)).mono ?_
      rintro e w1 ⟨g, cap1, rfl, hb, hown⟩
      have HB := hide hb
      have HO := hide hown
      clear hb hown
      go_wp2_with fail
      clear c0 c1
      go_loopw [6, 27] (fun nv iv wr => ∃ k : Nat, k ≤ 2 ∧ iv = .int .i64 (k : Int) ∧ Below wr0.heap.size wr0 wr ∧ PairsAt wr wr0.heap.size nv (cat2 said p k)) (fun _ iv _ => 2 - (intOf iv).toNat)
      case atStart => exact ⟨0, by omega, rfl, HB.out, HO.out⟩
      case round =>
        obtain ⟨k, hk, rfl, hb, hp⟩ := hrel
        obtain ⟨na, ncap, rfl⟩ := hp.shape
        have d0 := (hb.cell (p := ⟨vg, 0, none⟩) (lt_of_cell C0.out)).trans C0.out
        have d1 := (hb.cell (p := ⟨vg, 1, none⟩) (lt_of_cell C1.out)).trans C1.out
        have HB1 := hide hb
        have HP1 := hide hp
        clear hb hp
        match k, hk with
        | 0, _ =>
          cases sa with
          | none =>
            have hs0 := HS.out
            have hn : said.length = 0 := by
              rcases hs0.2 with ⟨h1, h2⟩ | ⟨g', cap', cur, h1, _⟩
              · exact h2
              · simp at h1
            have hc : cap = 0 := by
              rcases hs0.2 with ⟨h1, h2⟩ | ⟨g', cap', cur, h1, _⟩
              · simp at h1; exact h1.2
              · simp at h1
            clear hs0
            have hrun : ∀ ty, (Builtin.append_ #[84, 84] ty #[.slice na (cat2 said p 0).length ncap, .slice none said.length cap]).run Tryz.prog wr = .ok (.slice na (cat2 said p 0).length ncap) wr := by
              intro ty
              rw [hn, hc]
              exact run_append_owned_none (P := Tryz.prog) (w := wr) wr0.heap.size 84 ty 102 i0 2 Tryz.underlying84 HI0.out (.slice na (cat2 said p 0).length ncap) _ _ HP1.out
            have HN : Hid (said = []) := List.length_eq_zero_iff.1 hn
            clear hn hc
            go_wp2_with (at_builtin; refine Lib.wpList_append_run _ rfl (.tmp 31) (.tmp 32) 84 84 rfl (.slice na (cat2 said p 0).length ncap) (.slice none said.length cap) rfl rfl _ _ (hrun _) ?_)
            go_roundw
            case rel => exact ⟨1, by omega, rfl, HB1.out, by have h := HP1.out; rw [HN.out] at h ⊢; exact h⟩
            case measure => simp [intOf]
          | some a =>
            have HC := hide ((HS.out.kept (S := []) (Kept.of_below_size HB1.out) (by simp)).cells)
            go_wp2_with (at_builtin; refine wpList_append_exact _ rfl (.tmp 31) (.tmp 32) 84 rfl wr0.heap.size 102 i0 (.agg #[.string ⟨#[]⟩, .string ⟨#[]⟩]) 2 32 Tryz.underlying84 HI0.out HZ0.out HZ1.out HZ2.out rfl (by decide) (.slice na (cat2 said p 0).length ncap) 0 [] rfl HP1.out a said.length cap (rcells said) rfl (length_rcells said) HC.out (clone_one _) (by unfold maxLen; omega) (by omega) HB1.out.size ?_; intro v3 w3 hown hgrow hex; have hown2 : PairsAt w3 wr0.heap.size v3 said := (by simpa [PairsAt] using hown); obtain ⟨na3, ncap3, rfl⟩ := hown2.shape; have HO3 := hide hown2; have HB3 := hide (below_grown HB1.out HP1.out hgrow); clear hown hown2 hgrow hex)
            go_roundw
            case rel => exact ⟨1, by omega, rfl, HB3.out, HO3.out⟩
            case measure => simp [intOf]
        | 1, _ =>
          have HC : Hid (∀ j u, (rcells [p])[j]? = some u → wr.cell? ((⟨pg, 0, none⟩ : Addr).add j) = some u) := pair_cells ((HB1.out.block _ (lt_of_block HP.out)).trans HP.out)
          go_wp2_with (at_builtin; refine wpList_append_exact _ rfl (.tmp 31) (.tmp 32) 84 rfl wr0.heap.size 102 i0 (.agg #[.string ⟨#[]⟩, .string ⟨#[]⟩]) 2 32 Tryz.underlying84 HI0.out HZ0.out HZ1.out HZ2.out rfl (by decide) (.slice na (cat2 said p 1).length ncap) said.length (rcells said) rfl HP1.out ⟨pg, 0, none⟩ 1 1 (rcells [p]) rfl rfl HC.out (clone_one _) (by unfold maxLen; omega) (by omega) HB1.out.size ?_; intro v3 w3 hown hgrow hex; have hown2 : PairsAt w3 wr0.heap.size v3 (said ++ [p]) := (by unfold PairsAt; rw [rcells_snoc]; simpa using hown); obtain ⟨na3, ncap3, rfl⟩ := hown2.shape; have HO3 := hide hown2; have HB3 := hide (below_grown HB1.out HP1.out hgrow); clear hown hown2 hgrow hex)
          go_roundw
          case rel => exact ⟨2, by omega, rfl, HB3.out, by have h := HO3.out; simpa [cat2] using h⟩
          case measure => simp [intOf]
        | 2, _ =>
          go_wp2
          go_ret
          exact ⟨_, rfl, HB1.out, HP1.out⟩
end Go.Proofs.YtfiebibpgbadlaaGreat
