import Derived.Test.YtfiebibpgbadlaaRefB
import Derived.Test.YtfiebibpgbadlaaWd
namespace Go.Proofs.Ytfiebibpgbadlaa
open Go.RowKit
set_option linter.unusedVariables false
set_option linter.unusedSimpArgs false

/-- What holds while the pieces of a word are gone through. -/
structure PInv (w wr : World) (g L M : Nat) (said : List (Hw.Wd × Hw.Wd)) (xs : List Nat) (i : Nat) (S : Hw.Wd) (tb : Bool) (ys : List Nat) (P : Nat → Nat → Prop) : Prop where
  row : wr.heap[g]? = some (.cells (intRow ys) 3 (0, 0))
  kept : Kept [g] w wr
  good : Hw.Good L M said ys
  coarser : Hw.Coarser xs ys
  yes : tb = true → Hw.cnt ys < Hw.cnt xs
  no : tb = false → ys = xs ∧ ∀ a t, P a t → a ≤ t → t ≤ S.length → Hw.PieceDone L M xs i a t

theorem quiet_of2 {P : Program} {f : FuncId} {args : Array Value} {w : World} {n1 x : Nat} {v : Value}
    (h : Calls P f args (w.drewN (n1 + x)) fun e w' => e = .returned v ∧ ∃ m, w' = (w.drewN (n1 + x)).drewN m) : Calls P f args (w.drewN (n1 + x)) fun e w'' => e = .returned v ∧ ∃ m, w'' = w.drewN (n1 + m) :=
  h.mono fun _ _ ⟨he, m, hm⟩ => ⟨he, x + m, by rw [hm, World.drewN_drewN, Nat.add_assoc]⟩

theorem toList_extract (S : Hw.Wd) (a t : Nat) : ((⟨S.toArray⟩ : ByteArray).extract a t).data.toList = (S.take t).drop a := by
  rw [ByteArray.data_extract]
  simp [List.extract_eq_take_drop, List.drop_take]

theorem toList_three (S V : Hw.Wd) (a t : Nat) : ((⟨S.toArray⟩ : ByteArray).extract 0 a ++ ⟨V.toArray⟩ ++ (⟨S.toArray⟩ : ByteArray).extract t S.length).data.toList = S.take a ++ V ++ S.drop t := by
  rw [ByteArray.data_append, ByteArray.data_append, Array.toList_append, Array.toList_append, toList_extract, toList_extract]
  simp

theorem pinv_skip {w wr : World} {g L M i at_ to n : Nat} {said : List (Hw.Wd × Hw.Wd)} {xs ys : List Nat} {S : Hw.Wd} {tb : Bool} (hL3 : L ≤ 3) (hS : Hw.wordAt L M i = S) (hi : i < xs.length) (hxl : xs.length = (Hw.upTo L M).length) (hat : at_ ≤ to)
    (hI : PInv w wr g L M said xs i S tb ys (fun a t => a < at_ ∨ (a = at_ ∧ t < to))) (hk : Hw.of ys (Hw.fold L ((S.take to).drop at_)) = Hw.fold L ((S.take to).drop at_)) :
    PInv w (wr.drewN n) g L M said xs i S tb ys (fun a t => a < at_ ∨ (a = at_ ∧ t < to + 1)) := by
  refine ⟨hI.row, hI.kept.drewN n, hI.good, hI.coarser, hI.yes, fun h => ⟨(hI.no h).1, fun a t hp h1 h2 => ?_⟩⟩
  by_cases hq : a < at_ ∨ (a = at_ ∧ t < to)
  · exact (hI.no h).2 a t hq h1 h2
  · obtain ⟨rfl, rfl⟩ : a = at_ ∧ t = to := by omega
    have := (hI.no h).1
    subst this
    exact Hw.piece_same hL3 hS (by omega) hat hk

theorem pinv_join {w wr w2 : World} {g L M i at_ to n : Nat} {said : List (Hw.Wd × Hw.Wd)} {xs ys : List Nat} {S : Hw.Wd} {tb : Bool} (hL3 : L ≤ 3) (hM6 : M ≤ 6) (hS : Hw.wordAt L M i = S) (hw : Hw.isWord L M S = true) (hi : i < xs.length) (hxl : xs.length = (Hw.upTo L M).length) (hat : at_ ≤ to) (hto : to ≤ S.length)
    (hI : PInv w wr g L M said xs i S tb ys (fun a t => a < at_ ∨ (a = at_ ∧ t < to)))
    {J : Nat} (hJ : J = Hw.fold L (S.take at_ ++ Hw.wordAt L M (Hw.of ys (Hw.fold L ((S.take to).drop at_))) ++ S.drop to))
    (hrow : w2.heap[g]? = some (.cells (intRow (Hw.joinL ys i J).1) 3 (0, 0))) (hK : Kept [g] (wr.drewN n) w2) :
    PInv w w2 g L M said xs i S (tb || (Hw.joinL ys i J).2) (Hw.joinL ys i J).1 (fun a t => a < at_ ∨ (a = at_ ∧ t < to + 1)) := by
  have hp := Hw.piece_word hL3 hI.good hw at_ to hat hto
  have hyl : ys.length = xs.length := hI.good.len.trans hxl.symm
  have hJl : J < ys.length := by rw [hJ, hI.good.len]; exact Hw.fold_lt_length hL3 hp.2.2.2.1
  have hE : Hw.Eqv L M said (Hw.wordAt L M i) (Hw.wordAt L M J) := by
    rw [hS, hJ, Hw.wordAt_fold hL3 hp.2.2.2.1]; exact hp.2.2.2.2
  refine ⟨hrow, (hI.kept.drewN n).trans hK, Hw.good_join hI.good (by omega) hJl hE, ?_, ?_, ?_⟩
  · exact Hw.coarser_trans (by omega) hI.coarser (Hw.coarser_join ys i J)
  · intro h
    cases hb : (Hw.joinL ys i J).2 with
    | true =>
      have h1 := Hw.cnt_join hI.good (by omega) hJl hb
      cases tb with
      | true => have := hI.yes rfl; omega
      | false => have := (hI.no rfl).1; subst this; exact h1
    | false =>
      rw [(Hw.joinL_false hb).1]
      rw [hb, Bool.or_false] at h
      exact hI.yes h
  · intro h
    rw [Bool.or_eq_false_iff] at h
    obtain ⟨h1, h2⟩ := h
    obtain ⟨rfl, hP⟩ := hI.no h1
    obtain ⟨e1, e2⟩ := Hw.joinL_false h2
    refine ⟨e1, fun a t hp h1 h2 => ?_⟩
    by_cases hq : a < at_ ∨ (a = at_ ∧ t < to)
    · exact hP a t hq h1 h2
    · obtain ⟨rfl, rfl⟩ : a = at_ ∧ t = to := by omega
      unfold Hw.PieceDone
      rw [hS, ← hJ]
      exact e2

end Go.Proofs.Ytfiebibpgbadlaa
