import Derived.Test.YtfiebibpgbadlaaGreatKeepC
namespace Go.Proofs.YtfiebibpgbadlaaGreat
open Go.RowKit
set_option linter.unusedVariables false
set_option linter.unusedSimpArgs false

theorem cat3 (X S Y : Hw.Wd) : (⟨X.toArray⟩ : ByteArray) ++ (⟨S.toArray⟩ : ByteArray) ++ (⟨Y.toArray⟩ : ByteArray) = ⟨(X ++ S ++ Y).toArray⟩ := by
  rw [show (⟨X.toArray⟩ : ByteArray) ++ (⟨S.toArray⟩ : ByteArray) = ⟨(X ++ S).toArray⟩ from ByteArray.mk_append_mk X S]
  exact ByteArray.mk_append_mk (X ++ S) Y

theorem ext_eq (S : Hw.Wd) (a t : Nat) : (⟨S.toArray⟩ : ByteArray).extract a t = ⟨((S.take t).drop a).toArray⟩ := by
  apply ByteArray.ext
  apply Array.toList_inj.1
  rw [toList_extract]

/-- Least, at a word. -/
theorem bleast (s : Hw.Wd) (w : World) (bb L M : Nat) (rv : Value) (said R : List Hw.Rl) (hs : Hw.isWord L M s = true) (hB : BookR w bb L M rv said R) :
    Calls Tryz.prog 14 #[.pointer (some ⟨bb, 0, none⟩), .string ⟨s.toArray⟩] w fun e w' => ∃ m, e = .returned (.tuple #[.string ⟨m.toArray⟩, .int .i64 0]) ∧ Hw.IsLeast L M said s m ∧ Below w.heap.size w w' := by
  have h6 : s.length ≤ 6 := by have := Hw.isWord_len hs; have := hB.M6; omega
  refine (pleast_any ⟨s.toArray⟩ w bb L M rv said R (wd_size s h6) hB).mono ?_
  rintro e w' ⟨m, c, rfl, hA, hb⟩
  have e1 : (⟨s.toArray⟩ : ByteArray).data.toList = s := by simp
  rw [e1] at hA
  obtain ⟨h1, rfl⟩ := hA.1 hs
  exact ⟨m, rfl, h1, hb⟩

theorem bsame (s t m : Hw.Wd) (w : World) (bb L M : Nat) (rv : Value) (said R : List Hw.Rl) (hs : Hw.isWord L M s = true) (ht : Hw.isWord L M t = true) (hB : BookR w bb L M rv said R) (h1 : Hw.IsLeast L M said s m) (h2 : Hw.IsLeast L M said t m) :
    Calls Tryz.prog 16 #[.pointer (some ⟨bb, 0, none⟩), .string ⟨s.toArray⟩, .string ⟨t.toArray⟩] w fun e w' => e = .returned (.tuple #[.bool true, .int .i64 0]) ∧ Below w.heap.size w w' := by
  have h6 : s.length ≤ 6 := by have := Hw.isWord_len hs; have := hB.M6; omega
  have h6' : t.length ≤ 6 := by have := Hw.isWord_len ht; have := hB.M6; omega
  refine (psame_any ⟨s.toArray⟩ ⟨t.toArray⟩ w bb L M rv said R (wd_size s h6) (wd_size t h6') hB).mono ?_
  rintro e w' ⟨bv, c, rfl, hA, hb⟩
  have e1 : (⟨s.toArray⟩ : ByteArray).data.toList = s := by simp
  have e2 : (⟨t.toArray⟩ : ByteArray).data.toList = t := by simp
  rw [e1, e2] at hA
  obtain ⟨rfl, m1, m2, k1, k2, rfl⟩ := hA.1 hs ht
  rw [k1.uniq hB.L3 h1, k2.uniq hB.L3 h2]
  exact ⟨by simp, hb⟩

/-- A Book that is asked. -/
structure KBk (w W : World) (bb L M : Nat) (rv : Value) (said R : List Hw.Rl) : Prop where
  below : Below w.heap.size w W
  book : BookR W bb L M rv said R
theorem KBk.grow {w W W' : World} {bb L M : Nat} {rv : Value} {said R : List Hw.Rl} (h : KBk w W bb L M rv said R) (hb : Below W.heap.size W W') : KBk w W' bb L M rv said R :=
  ⟨below_trans h.below hb, h.book.same hb⟩
theorem KBk.drewN {w W : World} {bb L M : Nat} {rv : Value} {said R : List Hw.Rl} (h : KBk w W bb L M rv said R) (n : Nat) : KBk w (W.drewN n) bb L M rv said R := h.grow (below_draw n)

/-- What Placed is about. -/
theorem placed_math {L M : Nat} {said R : List Hw.Rl} {w : World} {bb : Nat} {rv : Value} (hB : BookR w bb L M rv said R) {X S Y W V : Hw.Wd} (hxsy : Hw.isWord L M (X ++ S ++ Y) = true) (hW : Hw.IsLeast L M said S W) (hV : Hw.IsLeast L M said (X ++ S ++ Y) V) :
    Hw.isWord L M (X ++ W ++ Y) = true ∧ Hw.IsLeast L M said (X ++ W ++ Y) V ∧ ¬ Hw.fold L S < Hw.fold L W ∧ ∀ p, Hw.Occ p V → Hw.isWord L M p = true ∧ Hw.IsLeast L M said p p := by
  have hS : Hw.isWord L M S = true := Hw.isWord_piece hxsy
  have hle : Hw.fold L W ≤ Hw.fold L S := hW.least S hS ((Hw.eqv_clo L M said).self S hS)
  have hlen := Hw.length_le_of_fold hB.L3 (Hw.isWord_ok hW.word) (Hw.isWord_ok hS) hle
  obtain ⟨o1, o2, o3⟩ := (Hw.ok_iff3 L _ _ _).1 (Hw.isWord_ok hxsy)
  have hw : Hw.isWord L M (X ++ W ++ Y) = true := (Hw.isWord_iff L M _).2 ⟨(Hw.ok_iff3 L _ _ _).2 ⟨o1, Hw.isWord_ok hW.word, o3⟩, by have := Hw.isWord_len hxsy; simp at this ⊢; omega⟩
  have he := (Hw.eqv_clo L M said).within X S W Y hW.same hxsy hw
  refine ⟨hw, hV.of_same ((Hw.eqv_clo L M said).back _ _ he), by omega, fun p hp => ?_⟩
  have hpw := hp.word hV.word
  have hVV : Hw.IsLeast L M said V V := hV.of_same ((Hw.eqv_clo L M said).back _ _ hV.same)
  have hi := (hB.fin.irr_least hB.L1 hB.L3 hB.words hV.word).2 hVV
  exact ⟨hpw, (hB.fin.irr_least hB.L1 hB.L3 hB.words hpw).1 (fun r hr ho => hi r hr (ho.trans hp))⟩

def KTrue (w : World) (e : Ending) (w' : World) : Prop := e = .returned (.bool true) ∧ Below w.heap.size w w'

end Go.Proofs.YtfiebibpgbadlaaGreat
