import Derived.Shelf.SlSortCmp.InsertionK
import Derived.Test.YtfiebibpgbadlaaGreatProgB
import Derived.Test.YtfiebibpgbadlaaGreatKb
import Derived.Test.YtfiebibpgbadlaaGreatShelfG
namespace Go.Proofs.YtfiebibpgbadlaaGreat
open Go.RowKit Go.Sort
set_option linter.unusedVariables false
set_option linter.unusedSimpArgs false

/-- A rule whose word is one of L letters. -/
structure WR (L : Nat) where
  r : Hw.Rl
  ok : Hw.Ok L r.1
instance (L : Nat) : Inhabited (WR L) := ⟨⟨([], []), by simp [Hw.Ok]⟩⟩
def encR {L : Nat} (x : WR L) : List Value := [.string ⟨x.r.1.toArray⟩, .string ⟨x.r.2.toArray⟩]
def cfR {L : Nat} (x y : WR L) : Int := if Hw.fold L x.r.1 < Hw.fold L y.r.1 then -1 else if Hw.fold L y.r.1 < Hw.fold L x.r.1 then 1 else 0
theorem ltR {L : Nat} (x y : WR L) : ltOf cfR x y = decide (Hw.fold L x.r.1 < Hw.fold L y.r.1) := by
  unfold ltOf cfR
  by_cases h1 : Hw.fold L x.r.1 < Hw.fold L y.r.1
  · simp [h1]
  · by_cases h2 : Hw.fold L y.r.1 < Hw.fold L x.r.1 <;> simp [h1, h2]
theorem swoR (L : Nat) : SWO (ltOf (cfR (L := L))) where
  irrefl x := by rw [ltR]; simp
  trans x y z h1 h2 := by rw [ltR] at *; simp at *; omega
  ntrans x y z h1 h2 := by rw [ltR] at *; simp at *; omega

theorem learn1_words {L : Nat} (hL1 : 1 ≤ L) (hL3 : L ≤ 3) (xf xt yf yt : Hw.Wd) (hx : Hw.Ok L xf) (hy : Hw.Ok L yf) (w : World) :
    Calls Tryz.prog 79 #[.agg #[.string ⟨xf.toArray⟩, .string ⟨xt.toArray⟩], .agg #[.string ⟨yf.toArray⟩, .string ⟨yt.toArray⟩]] w fun e w' => e = .returned (.int .i64 (if Hw.fold L xf < Hw.fold L yf then -1 else if Hw.fold L yf < Hw.fold L xf then 1 else 0)) ∧ ∃ q os', w' = grow (w.drewN q) os' := by
  have hc := fun W => compare_words xf yf L W hL1 hL3 hx hy
  clear hx hy
  generalize (if Hw.fold L xf < Hw.fold L yf then (-1 : Int) else if Hw.fold L yf < Hw.fold L xf then 1 else 0) = r at hc ⊢
  go_enter Tryz.func79, Tryz.ntmps79
  go_wp2_with (go_at_call 80; refine (hc _).mono ?_; rintro e w' ⟨rfl, o, rfl⟩)
  go_ret
  exact ⟨rfl, 0, _, by rw [alloc_eq_grow, alloc_eq_grow, alloc_eq_grow, grow_grow, grow_grow]; rfl⟩

theorem learn1_any {L : Nat} (hL1 : 1 ≤ L) (hL3 : L ≤ 3) (x y : WR L) (w : World) :
    Calls Tryz.prog 79 #[.agg #[.string ⟨x.r.1.toArray⟩, .string ⟨x.r.2.toArray⟩], .agg #[.string ⟨y.r.1.toArray⟩, .string ⟨y.r.2.toArray⟩]] w fun e w' => e = .returned (.int .i64 (cfR x y)) ∧ ∃ q os', w' = grow (w.drewN q) os' :=
  learn1_words hL1 hL3 x.r.1 x.r.2 y.r.1 y.r.2 x.ok y.ok w

theorem cmpR {L : Nat} (hL1 : 1 ≤ L) (hL3 : L ≤ 3) (blk off size : Nat) (w : World) : CmpLays Tryz.prog 79 #[] (encR (L := L)) 2 cfR blk off size w :=
  fun _ _ _ _ x y => learn1_any hL1 hL3 x y _

/-- The rules as an array of such. -/
def wrs {L : Nat} : (R : List Hw.Rl) → (∀ r, r ∈ R → Hw.Ok L r.1) → List (WR L)
  | [], _ => []
  | r :: R, h => ⟨r, h r (by simp)⟩ :: wrs R fun x hx => h x (by simp [hx])
theorem wrs_val {L : Nat} : ∀ (R : List Hw.Rl) (h : ∀ r, r ∈ R → Hw.Ok L r.1), (wrs R h).map WR.r = R
  | [], _ => rfl
  | r :: R, h => by
    show r :: (wrs R _).map WR.r = _
    rw [wrs_val R]
theorem rcells_wr {L : Nat} (l : List (WR L)) (j : Nat) (hj : j < l.length * 2) : (rcells (l.map WR.r))[j]? = some ((encR (l.toArray[j / 2]!))[j % 2]!) := by
  have h2 : j / 2 < l.length := by omega
  have h := rcells_at (l.map WR.r) (j / 2) (by simpa using h2)
  have e : l.toArray[j / 2]! = l[j / 2] := by rw [getElem!_pos _ _ (by simpa using h2)]; simp
  rw [e]
  simp only [List.getElem_map] at h
  rcases Nat.mod_two_eq_zero_or_one j with hm | hm
  · rw [hm]
    refine Eq.trans ?_ h.1
    congr 1
    omega
  · rw [hm]
    refine Eq.trans ?_ h.2
    congr 1
    omega

theorem holds_wr {L : Nat} {w : World} {B g n cap : Nat} (l : List (WR L)) (h : RulesAt w B (.slice (some ⟨g, 0, none⟩) n cap) (l.map WR.r)) : HoldsK (encR (L := L)) 2 w g 0 l.toArray := by
  intro j hj
  rw [size_flatK] at hj
  have hj' : j < l.length * 2 := by simpa using hj
  rcases h.2 with ⟨h1, _⟩ | ⟨g', cap', cur, h1, hb, hg, hn, hm, hsz, ht⟩
  · simp at h1
  · simp only [Value.slice.injEq, Option.some.injEq, Addr.mk.injEq] at h1
    obtain ⟨⟨rfl, -, -⟩, -, rfl⟩ := h1
    refine ⟨?_, frozen_of_row w _ _ _ _ hg⟩
    rw [get_flatK _ _ _ _ hj, Nat.zero_add, cell_of_row w g j cur _ _ hg]
    have e := rcells_wr l j hj'
    rw [← ht, List.getElem?_take, if_pos (by simpa using hj'), Array.getElem?_toList] at e
    exact e

theorem sort_world {L : Nat} {w : World} {B g cap m : Nat} {os : Array Obj} (l l' : List (WR L)) (hl : l'.length = l.length) (h : RulesAt w B (.slice (some ⟨g, 0, none⟩) l.length cap) (l.map WR.r)) :
    RulesAt (sortWorldK (encR (L := L)) 2 w g 0 m l'.toArray os) B (.slice (some ⟨g, 0, none⟩) l.length cap) (l'.map WR.r) ∧ Kept [g] w (sortWorldK (encR (L := L)) 2 w g 0 m l'.toArray os) := by
  rcases h.2 with ⟨h1, _⟩ | ⟨g', cap', cur, h1, hb, hg, hn, hm, hsz, ht⟩
  · simp at h1
  · simp only [Value.slice.injEq, Option.some.injEq, Addr.mk.injEq] at h1
    obtain ⟨⟨rfl, -, -⟩, -, rfl⟩ := h1
    have hlt := lt_of_block hg
    have hw : ∀ k, k < w.heap.size → (sortWorldK (encR (L := L)) 2 w g 0 m l'.toArray os).heap[k]? = if k = g then some (.cells (putCells id 0 (flatK encR 2 l'.toArray) cur) 77 (0, 0)) else w.heap[k]? := by
      intro k hk
      unfold sortWorldK grow putRowK putRow mapBlock
      simp only
      rw [Array.getElem?_append_left (by simpa [ahead] using hk), Array.getElem?_modify]
      by_cases e : g = k
      · subst e
        simp [ahead, hg, onCells]
      · rw [if_neg e, if_neg (Ne.symm e)]; rfl
    refine ⟨⟨by simp [length_rcells], Or.inr ⟨g, cap, putCells id 0 (flatK encR 2 l'.toArray) cur, by simp [hl], hb, ?_, by simp [hl]; simpa using hn, hm, by simpa [putCells] using hsz, ?_⟩⟩, ?_⟩
    · rw [hw g hlt, if_pos rfl]
    · apply List.ext_getElem?
      intro j
      rw [List.getElem?_take]
      by_cases hj : j < l'.length * 2
      · rw [if_pos (by simpa using hj), rcells_wr l' j hj]
        have hjc : j < cur.size := by rw [hsz]; have : (List.map WR.r l).length = l.length := by simp
                                      rw [this] at hn; omega
        have hp : (putCells id 0 (flatK encR 2 l'.toArray) cur)[j]? = some (flatK encR 2 l'.toArray)[j]! := by
          unfold putCells
          rw [Array.getElem?_mapIdx, Array.getElem?_eq_getElem hjc]
          simp only [Option.map_some]
          rw [if_pos ⟨Nat.zero_le _, by rw [size_flatK]; simpa using hj⟩, Nat.sub_zero]
          rfl
        rw [Array.getElem?_toList, hp, get_flatK encR 2 l'.toArray j (by simpa using hj)]
      · rw [if_neg (by simpa using hj), List.getElem?_eq_none (by rw [length_rcells]; simpa using hj)]
    · refine ⟨rfl, rfl, rfl, ?_, fun k hk hn => ?_⟩
      · unfold sortWorldK grow putRowK putRow mapBlock; simp [ahead]
      · rw [hw k hk, if_neg (by simpa using hn)]

end Go.Proofs.YtfiebibpgbadlaaGreat
namespace Go.Proofs.YtfiebibpgbadlaaGreat
open Go.RowKit Go.Sort
set_option linter.unusedVariables false
set_option linter.unusedSimpArgs false

theorem sort_any (w : World) (B L M : Nat) (rv : Value) (R : List Hw.Rl) (hL1 : 1 ≤ L) (hL3 : L ≤ 3) (hRl : R.length ≤ 65536) (hok : ∀ r, r ∈ R → Hw.Ok L r.1) (hR : RulesAt w B rv R) :
    Calls Tryz.prog 78 #[rv, .func (.func 79) #[] #[]] w fun e w' => e = .returned (.tuple #[]) ∧ ∃ R', R'.Perm R ∧ (R'.Pairwise fun a b => Hw.fold L a.1 ≤ Hw.fold L b.1) ∧ RulesAt w' B rv R' ∧ ∃ S, Kept S w w' ∧ ∀ k, k ∈ S → rv.ownBlock = some k := by
  by_cases h0 : R.length = 0
  · have e : R = [] := List.length_eq_zero_iff.1 h0
    subst e
    obtain ⟨sa, cap, rfl⟩ := hR.shape
    refine (AnyF.slices_SortFunc_none (P := Tryz.prog) Tryz.laysSort sa cap _ w).mono ?_
    rintro e w' ⟨rfl, rfl⟩
    exact ⟨rfl, [], List.Perm.refl _, List.Pairwise.nil, hR, [], Kept.refl _ _, by simp⟩
  · rcases hR.2 with ⟨_, h2⟩ | ⟨g, cap, cur, rfl, hb, hg, hn, hm, hsz, ht⟩
    · exact absurd h2 h0
    · have hv := wrs_val R hok
      generalize hl : wrs R hok = l at hv
      subst hv
      have eg : ∀ args w, (callFunc 79 args).run Tryz.prog w = .ok (.enter 79 args) w := enters_of Tryz.func79 (by kernel_rfl) rfl
      have hcon := AnyQ.slices_SortFunc Tryz.laysSort 2 Tryz.isAgg77 Tryz.sizeOf77 (encR (L := L)) (fun _ => rfl) (fun x v hv => by simp [encR] at hv; rcases hv with rfl | rfl <;> rfl) cfR (swoR L) 79 #[] g 0 cap l.toArray w eg (cmpR hL1 hL3 g 0 _ w) (holds_wr l hR) (lt_of_block hg) (by simp at hRl ⊢; omega)
      have e1 : (List.map WR.r l).length = l.toArray.size := by simp
      rw [e1]
      refine hcon.mono ?_
      rintro e w' ⟨rfl, d', n, os, hp, hs, rfl⟩
      obtain ⟨l', rfl⟩ : ∃ l', d' = List.toArray l' := ⟨d'.toList, by simp⟩
      have hlen : l'.length = l.length := by simpa using hp.1
      rw [e1] at hR
      have hw := sort_world (m := n) (os := os) l l' hlen (by simpa using hR)
      have hperm : l'.Perm l := by
        have h := hp.2.2
        have e2 : l'.toArray.extract 0 l.toArray.size = l'.toArray := by rw [← hp.1]; exact Array.extract_size
        rw [e2, Array.extract_size] at h
        simpa using h
      refine ⟨rfl, l'.map WR.r, hperm.map _, ?_, ?_, [g], hw.2, by simp [Value.ownBlock]⟩
      · rw [List.pairwise_map, List.pairwise_iff_getElem]
        intro i j hi hj hij
        have h := hs i j (Nat.zero_le _) hij (by simpa [hlen] using hj)
        rw [ltR, getElem!_pos _ _ (by simpa using hj), getElem!_pos _ _ (by simpa using hi)] at h
        simpa using h
      · simpa using hw.1
end Go.Proofs.YtfiebibpgbadlaaGreat
