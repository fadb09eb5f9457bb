import Derived.Test.YtfiebibpgbadlaaRefC
import Derived.Deep.RegionHeld3
namespace Go.Proofs.Ytfiebibpgbadlaa
open Go.RowKit
set_option linter.unusedVariables false
set_option linter.unusedSimpArgs false

def str (s : Hw.Wd) : Value := .string ⟨s.toArray⟩

/-- What is said, as the document's Book keeps it. -/
structure SaidAt (w : World) (saidV : Value) (said : List (Hw.Wd × Hw.Wd)) (gs : List Nat) : Prop where
  len : gs.length = said.length
  own : w.ownsRow 0 71 1 saidV said.length (gs.map fun g => Value.slice (some ⟨g, 0, none⟩) 2 2)
  pair : ∀ i, i < said.length → w.heap[gs.getD i 0]? = some (.cells #[str (said.getD i ([], [])).1, str (said.getD i ([], [])).2] 9 (0, 0))

theorem SaidAt.shape {w : World} {saidV : Value} {said : List (Hw.Wd × Hw.Wd)} {gs : List Nat} (h : SaidAt w saidV said gs) : ∃ sa cap, saidV = .slice sa said.length cap := by
  rcases h.own.2 with ⟨h1, h2⟩ | ⟨g, cap, cur, h1, _⟩
  · exact ⟨none, 0, by rw [h1, h2]⟩
  · exact ⟨_, _, h1⟩

theorem SaidAt.read {w : World} {saidV : Value} {said : List (Hw.Wd × Hw.Wd)} {gs : List Nat} (h : SaidAt w saidV said gs) {i : Nat} (hi : i < said.length) :
    ∃ sg cap cur, saidV = .slice (some ⟨sg, 0, none⟩) said.length cap ∧ w.heap[sg]? = some (.cells cur 71 (0, 0)) ∧ w.cell? ⟨sg, i, none⟩ = some (.slice (some ⟨gs.getD i 0, 0, none⟩) 2 2) := by
  rcases h.own.2 with ⟨h1, h2⟩ | ⟨g, cap, cur, h1, _, hg, hn, _, hsz, ht⟩
  · omega
  · refine ⟨g, cap, cur, h1, hg, ?_⟩
    rw [cell_of_row w g i cur _ _ hg]
    have hlt : i < gs.length := by rw [h.len]; exact hi
    have e : (cur.toList.take (said.length * 1))[i]? = some (.slice (some ⟨gs.getD i 0, 0, none⟩) 2 2) := by
      rw [ht, List.getElem?_map, List.getElem?_eq_getElem hlt]
      simp [hlt]
    rw [List.getElem?_take, if_pos (by omega)] at e
    simpa using e

/-- The words, as the document's Book keeps them. -/
def WordsAt (w : World) (gw cw L M : Nat) : Prop :=
  ∃ cur, w.heap[gw]? = some (.cells cur 9 (0, 0)) ∧ cur.toList.take (Hw.upTo L M).length = (Hw.upTo L M).map str

theorem WordsAt.cell {w : World} {gw cw L M : Nat} (h : WordsAt w gw cw L M) (k : Nat) (hk : k < (Hw.upTo L M).length) : w.cell? ⟨gw, k, none⟩ = some (.string ⟨(Hw.wordAt L M k).toArray⟩) := by
  obtain ⟨cur, hg, ht⟩ := h
  rw [cell_of_row w gw k cur _ _ hg]
  have e : (cur.toList.take (Hw.upTo L M).length)[k]? = some (str (Hw.wordAt L M k)) := by
    rw [ht, List.getElem?_map, List.getElem?_eq_getElem hk, Hw.wordAt_eq hk]; rfl
  rw [List.getElem?_take, if_pos hk] at e
  simpa [str] using e

theorem WordsAt.kept {w w' : World} {gw cw L M : Nat} {S : List Nat} (h : WordsAt w gw cw L M) (hK : Kept S w w') (hn : gw ∉ S) : WordsAt w' gw cw L M := by
  obtain ⟨cur, hg, ht⟩ := h
  exact ⟨cur, hK.at hg hn, ht⟩

theorem SaidAt.kept {w w' : World} {saidV : Value} {said : List (Hw.Wd × Hw.Wd)} {gs : List Nat} {S : List Nat} (h : SaidAt w saidV said gs) (hK : Kept S w w')
    (h1 : ∀ k, k ∈ S → saidV.ownBlock ≠ some k) (h2 : ∀ k, k ∈ S → ∀ c fr, w.heap[k]? ≠ some (.cells c 9 fr)) : SaidAt w' saidV said gs := by
  refine ⟨h.len, ⟨h.own.1, ?_⟩, fun i hi => hK.at (h.pair i hi) (fun hm => h2 _ hm _ _ (h.pair i hi))⟩
  rcases h.own.2 with hn | ⟨g, cap, cur, rfl, hb, hg, r⟩
  · exact .inl hn
  · exact .inr ⟨g, cap, cur, rfl, hb, hK.at hg (fun hm => h1 g hm rfl), r⟩

theorem upTo_small {L M : Nat} (hL : L ≤ 3) (hM : M ≤ 6) : (Hw.upTo L M).length ≤ 1093 := by
  have h : ∀ s, s ∈ Hw.upTo L M → True := fun _ _ => trivial
  rw [Hw.length_upTo hL]
  have : ∀ n, Hw.off L n ≤ Hw.off 3 n := by
    intro n
    induction n with
    | zero => exact Nat.le_refl _
    | succ n ih => exact Nat.add_le_add ih (Nat.pow_le_pow_left hL n)
  refine Nat.le_trans (this _) (Nat.le_trans (Hw.off_mono 3 (show M + 1 ≤ 7 by omega)) ?_)
  decide

def initTo (n i : Nat) : List Nat := List.range i ++ List.replicate (n - i) 0
theorem length_initTo (n i : Nat) (h : i ≤ n) : (initTo n i).length = n := by simp [initTo]; omega
theorem initTo_zero (n : Nat) : initTo n 0 = List.replicate n 0 := by simp [initTo]
theorem initTo_all (n : Nat) : initTo n n = List.range n := by simp [initTo]
theorem initTo_succ (n i : Nat) (h : i < n) : (initTo n i).set i i = initTo n (i + 1) := by
  unfold initTo
  rw [List.set_append_right _ _ (by simp), List.length_range, Nat.sub_self, show n - i = (n - (i + 1)) + 1 by omega, List.replicate_succ, List.set_cons_zero, List.range_succ]
  simp

theorem Try.info3 : (Try.prog.info? 3).map (fun i => (i.zero, i.size, i.bytes)) = some (some (.int .i64 0), 1, 8) := by kernel_rfl

theorem run_make_ints (n : Nat) (hn : n ≤ 65536) (W : World) :
    (Instr.makeSlice 44 (.int .i64 (n : Int)) (.int .i64 (n : Int))).run Try.prog W = .ok (.slice (some ⟨W.heap.size, 0, none⟩) n n) (W.alloc (.cells (intRow (initTo n 0)) 3)) := by
  obtain ⟨i, hi, hz, hs, hb⟩ := info_parts Try.info3
  rw [run_make (P := Try.prog) W 44 3 i (.int .i64 0) Try.underlying44 hi hz .i64 .i64 n n (by omega) (by omega) (by rw [hb]; omega) (by omega)]
  have e : madeCells (Value.cells (.int .i64 0)) ((n : Int).toNat * i.size) = intRow (initTo n 0) := by
    apply Array.ext'
    rw [hs, Nat.mul_one, Int.toNat_natCast, initTo_zero]
    rw [show Value.cells (.int .i64 0) = #[Value.int .i64 0] from rfl, toList_madeCells_one]
    simp [intRow]
  rw [e, Int.toNat_natCast]

end Go.Proofs.Ytfiebibpgbadlaa
