import Derived.Test.YtfiebibpgbadlaaGreatAllG
import Derived.Test.YtfiebibpgbadlaaGreatLawW
namespace Go.Proofs.YtfiebibpgbadlaaGreat
open Go.RowKit
set_option linter.unusedVariables false
set_option linter.unusedSimpArgs false

/-- Where one of All's Books lies. -/
structure Bk where
  xb : Nat
  bb : Nat
  rb : Nat
  gw : Nat
  cw : Nat
  L : Nat
  M : Nat
  sv : Value

structure BkD (w : World) (b : Bk) (rv sameV : Value) (said R : List Hw.Rl) (gs : List Nat) (fresh : Bool) : Prop where
  x : w.heap[b.xb]? = some (.cells #[.pointer (some ⟨b.bb, 0, none⟩), .pointer (some ⟨b.rb, 0, none⟩)] 65 (0, 0))
  book : BookR w b.bb b.L b.M rv said R
  ref : RefR w b.rb b.gw b.cw b.L b.M b.sv sameV said gs fresh
  prb : b.rb ≠ 0
  psv : b.sv.ownBlock ≠ some 0
def BkAt (w : World) (b : Bk) : Prop := ∃ rv sameV said R gs fresh, BkD w b rv sameV said R gs fresh

/-- What a step over a Book may write. -/
def AOf (w : World) (b : Bk) : Nat → Prop := fun k => k = b.bb ∨ k = b.rb ∨ b.sv.ownBlock = some k ∨ w.heap.size ≤ k
def wrt (b : Bk) : List Nat := b.bb :: b.rb :: b.sv.ownBlock.toList

theorem BkAt.both {w : World} {b : Bk} (h : BkAt w b) : BothR (AOf w b) w b.xb b.bb b.rb b.gw b.cw b.L b.M := by
  obtain ⟨rv, sameV, said, R, gs, fresh, h⟩ := h
  have hb := lt_of_block h.x
  refine ⟨rv, b.sv, sameV, said, R, gs, fresh, h.x, h.book, h.ref, ?_, .inl rfl, .inr (.inl rfl), fun k hk => .inr (.inr (.inl hk)), fun k hk => .inr (.inr (.inr hk))⟩
  rintro (e | e | e | e)
  · have := h.book.pos; omega
  · exact h.prb e.symm
  · exact h.psv e
  · omega

theorem BA.wrt {w w' : World} {b : Bk} (h : BA (AOf w b) w w') : Kept (wrt b) w w' := by
  refine ⟨h.os, h.tape, h.output, h.size, fun k hk hn => h.block k hk ?_⟩
  simp [Go.Proofs.YtfiebibpgbadlaaGreat.wrt] at hn
  rintro (e | e | e | e)
  · exact hn.1 e
  · exact hn.2.1 e
  · exact hn.2.2 e
  · omega

theorem bk_next {w w' : World} {b : Bk} (hw : BA (AOf w b) w w') (h : BothR (AOf w b) w' b.xb b.bb b.rb b.gw b.cw b.L b.M) : ∃ sv', BkAt w' { b with sv := sv' } ∧ ∀ k, sv'.ownBlock = some k → b.sv.ownBlock = some k ∨ w.heap.size ≤ k := by
  obtain ⟨rv, saidV, sameV, said, R, gs, fresh, h⟩ := h
  refine ⟨saidV, ⟨rv, sameV, said, R, gs, fresh, h.x, h.book, h.ref, ?_, fun e => h.pos (h.los 0 e)⟩, ?_⟩
  · intro e; exact h.pos (by rw [← e]; exact h.lor)
  · intro k hk
    obtain ⟨cur, hc⟩ := h.ref.own_type hk
    rcases h.los k hk with e | e | e | e
    · subst e; rw [h.book.blk] at hc; simp [bookBlock] at hc
    · subst e; rw [h.ref.blk] at hc; simp [refBlock] at hc
    · exact .inl e
    · exact .inr e

theorem bk_nextN {w w' : World} {b : Bk} (h : BothN (AOf w b) w w' b.xb b.bb b.rb b.gw b.cw b.L b.M) : ∃ sv', (∃ rv sameV said R gs fresh, BkD w' { b with sv := sv' } rv sameV said R gs fresh ∧ ∀ k, rv.ownBlock = some k → k < w.heap.size) ∧ ∀ k, sv'.ownBlock = some k → b.sv.ownBlock = some k ∨ w.heap.size ≤ k := by
  obtain ⟨rv, saidV, sameV, said, R, gs, fresh, h, hrv⟩ := h
  refine ⟨saidV, ⟨rv, sameV, said, R, gs, fresh, ⟨h.x, h.book, h.ref, ?_, fun e => h.pos (h.los 0 e)⟩, hrv⟩, ?_⟩
  · intro e; exact h.pos (by rw [← e]; exact h.lor)
  · intro k hk
    obtain ⟨cur, hc⟩ := h.ref.own_type hk
    rcases h.los k hk with e | e | e | e
    · subst e; rw [h.book.blk] at hc; simp [bookBlock] at hc
    · subst e; rw [h.ref.blk] at hc; simp [refBlock] at hc
    · exact .inl e
    · exact .inr e

/-- Two Books write nothing in common. -/
def Apart2 (b c : Bk) : Prop := b.bb ≠ c.bb ∧ b.rb ≠ c.rb ∧ ∀ k, b.sv.ownBlock = some k → c.sv.ownBlock ≠ some k

theorem wrt_type {w : World} {b : Bk} (h : BkAt w b) : ∀ k, k ∈ wrt b → ∃ c t, w.heap[k]? = some (.cells c t (0, 0)) ∧ ((k = b.bb ∧ t = 86) ∨ (k = b.rb ∧ t = 62) ∨ (b.sv.ownBlock = some k ∧ t = 60)) := by
  obtain ⟨rv, sameV, said, R, gs, fresh, h⟩ := h
  intro k hk
  simp [wrt] at hk
  rcases hk with rfl | rfl | hk
  · exact ⟨_, _, h.book.blk, .inl ⟨rfl, rfl⟩⟩
  · exact ⟨_, _, h.ref.blk, .inr (.inl ⟨rfl, rfl⟩)⟩
  · obtain ⟨cur, hc⟩ := h.ref.own_type hk
    exact ⟨_, _, hc, .inr (.inr ⟨hk, rfl⟩)⟩

theorem bk_otherD {w w' : World} {b c : Bk} {rv sameV : Value} {said R : List Hw.Rl} {gs : List Nat} {fresh : Bool} (hb : BkAt w b) (h : BkD w c rv sameV said R gs fresh) (hap : Apart2 b c) (hK : Kept (wrt b) w w') : BkD w' c rv sameV said R gs fresh := by
  have hty := wrt_type hb
  have hnot : ∀ k cs t fr, w.heap[k]? = some (.cells cs t fr) → t ≠ 86 → t ≠ 62 → t ≠ 60 → k ∉ wrt b := by
    intro k cs t fr e n1 n2 n3 hm
    obtain ⟨c', t', e', h'⟩ := hty k hm
    rw [e] at e'
    simp at e'
    obtain ⟨rfl, rfl, rfl⟩ := e'
    rcases h' with h' | h' | h'
    · exact n1 h'.2
    · exact n2 h'.2
    · exact n3 h'.2
  have h0 : 0 ∉ wrt b := by
    obtain ⟨rv2, sameV2, said2, R2, gs2, fresh2, h2⟩ := hb
    simp [wrt]
    exact ⟨by have := h2.book.pos; omega, fun e => h2.prb e.symm, h2.psv⟩
  have hbb : c.bb ∉ wrt b := by
    intro hm
    obtain ⟨c', t', e', h'⟩ := hty _ hm
    rw [h.book.blk] at e'
    simp [bookBlock] at e'
    obtain ⟨_, rfl⟩ := e'
    rcases h' with h' | h' | h'
    · exact hap.1 h'.1.symm
    · exact absurd h'.2 (by decide)
    · exact absurd h'.2 (by decide)
  have hrb : c.rb ∉ wrt b := by
    intro hm
    obtain ⟨c', t', e', h'⟩ := hty _ hm
    rw [h.ref.blk] at e'
    simp [refBlock] at e'
    obtain ⟨_, rfl⟩ := e'
    rcases h' with h' | h' | h'
    · exact absurd h'.2 (by decide)
    · exact hap.2.1 h'.1.symm
    · exact absurd h'.2 (by decide)
  have hsv : ∀ k, c.sv.ownBlock = some k → k ∉ wrt b := by
    intro k hk hm
    obtain ⟨cur, hc⟩ := h.ref.own_type hk
    obtain ⟨c', t', e', h'⟩ := hty _ hm
    rw [hc] at e'
    simp at e'
    obtain ⟨_, rfl⟩ := e'
    rcases h' with h' | h' | h'
    · exact absurd h'.2 (by decide)
    · exact absurd h'.2 (by decide)
    · exact hap.2.2 k h'.1 hk
  obtain ⟨m, hm⟩ := h.book.mx
  refine ⟨hK.at h.x (hnot _ _ _ _ h.x (by decide) (by decide) (by decide)), ?_, ?_, h.prb, h.psv⟩
  · refine h.book.move (hK.block _ (lt_of_block h.book.blk) hbb) (h.book.rul.kept hK ?_) (h.book.sad.kept hK (fun k hk c fr e => hnot _ _ _ _ e (by decide) (by decide) (by decide) hk)) ⟨m, hK.cell hm h0⟩
    intro k hk e
    rcases h.book.rul.2 with ⟨h1, _⟩ | ⟨g, cap, cur, h1, _, hg, _⟩
    · rw [h1] at e; simp [Value.ownBlock] at e
    · rw [h1] at e; simp [Value.ownBlock] at e; subst e
      exact hnot _ _ _ _ hg (by decide) (by decide) (by decide) hk
  · refine ⟨h.ref.L1, h.ref.L3, h.ref.M1, h.ref.M6, h.ref.few, hK.at h.ref.blk hrb, ?_, ?_, h.ref.words, ?_⟩
    · obtain ⟨cur, hg, _⟩ := h.ref.wrd
      exact h.ref.wrd.kept hK (hnot _ _ _ _ hg (by decide) (by decide) (by decide))
    · refine h.ref.sd.kept hK (fun k hk e => hsv k e hk) ?_
      intro k hk cs fr e
      exact hnot _ _ _ _ e (by decide) (by decide) (by decide) hk
    · intro hf
      obtain ⟨g, xs, h1, h2, h3⟩ := h.ref.done hf
      exact ⟨g, xs, h1, hK.at h2 (hnot _ _ _ _ h2 (by decide) (by decide) (by decide)), h3⟩

theorem bk_other {w w' : World} {b c : Bk} (hb : BkAt w b) (hc : BkAt w c) (hap : Apart2 b c) (hK : Kept (wrt b) w w') : BkAt w' c := by
  obtain ⟨rv, sameV, said, R, gs, fresh, h⟩ := hc
  exact ⟨rv, sameV, said, R, gs, fresh, bk_otherD hb h hap hK⟩

/-- it reads no rules from block N on. -/
def BkLow (N : Nat) (w : World) (b : Bk) : Prop := ∃ rv sameV said R gs fresh, BkD w b rv sameV said R gs fresh ∧ ∀ k, rv.ownBlock = some k → k < N

theorem bk_same {w w' : World} {b : Bk} (h : BkAt w b) (hb : Below w.heap.size w w') : BkAt w' b := by
  obtain ⟨rv, sameV, said, R, gs, fresh, h⟩ := h
  exact ⟨rv, sameV, said, R, gs, fresh, (hb.block _ (lt_of_block h.x)).trans h.x, h.book.same hb, h.ref.kept (S := []) (Kept.of_below_size hb) (by simp), h.prb, h.psv⟩

/-- the lists stay. -/
theorem Lists.wrt {w w' : World} {wb : Nat} {bsV rulV linV : Value} {rs ls : List Value} {b : Bk} (h : Lists w wb bsV rulV linV rs ls) (hb : BkAt w b) (hK : Kept (Go.Proofs.YtfiebibpgbadlaaGreat.wrt b) w w') : Lists w' wb bsV rulV linV rs ls := by
  have hty := wrt_type hb
  have hnot : ∀ k cs t fr, w.heap[k]? = some (.cells cs t fr) → t ≠ 86 → t ≠ 62 → t ≠ 60 → k ∉ Go.Proofs.YtfiebibpgbadlaaGreat.wrt b := by
    intro k cs t fr e n1 n2 n3 hm
    obtain ⟨c', t', e', h'⟩ := hty k hm
    rw [e] at e'
    simp at e'
    obtain ⟨rfl, rfl, rfl⟩ := e'
    rcases h' with h' | h' | h'
    · exact n1 h'.2
    · exact n2 h'.2
    · exact n3 h'.2
  refine ⟨hK.at h.blk (hnot _ _ _ _ h.blk (by decide) (by decide) (by decide)), own_kept h.rown hK ?_, own_kept h.lown hK ?_, fun k v hk => (h.rmk k v hk).kept hK ?_, fun k v hk => (h.lmk k v hk).kept hK ?_⟩
  · intro k hk e
    obtain ⟨c, hc⟩ := own_type h.rown e
    exact hnot _ _ _ _ hc (by decide) (by decide) (by decide) hk
  · intro k hk e
    obtain ⟨c, hc⟩ := own_type h.lown e
    exact hnot _ _ _ _ hc (by decide) (by decide) (by decide) hk
  · intro k hk c fr e
    exact hnot _ _ _ _ e (by decide) (by decide) (by decide) hk
  · intro k hk c fr e
    exact hnot _ _ _ _ e (by decide) (by decide) (by decide) hk
end Go.Proofs.YtfiebibpgbadlaaGreat
namespace Go.Proofs.YtfiebibpgbadlaaGreat
open Go.RowKit
set_option linter.unusedVariables false
set_option linter.unusedSimpArgs false

theorem Apart2.symm {b c : Bk} (h : Apart2 b c) : Apart2 c b := ⟨h.1.symm, h.2.1.symm, fun k hk e => h.2.2 k e hk⟩

def bptr (b : Bk) : Value := .pointer (some ⟨b.xb, 0, none⟩)

/-- All's world. -/
structure WI (B : Nat) (w : World) (wb : Nat) (bs : List Bk) (bsV rulV linV : Value) (rs ls : List Value) : Prop where
  lists : Lists w wb bsV rulV linV rs ls
  bown : w.ownsRow 0 56 1 bsV bs.length (bs.map bptr)
  books : ∀ b, b ∈ bs → BkAt w b
  apart : bs.Pairwise Apart2
  mx : ∃ m, w.cell? ⟨0, 0, none⟩ = some (.int .i64 m)
  sz : B ≤ w.heap.size
  low : B ≤ wb
  lob : ∀ b, b ∈ bs → ∀ k, k ∈ wrt b → B ≤ k
  lobs : ∀ k, bsV.ownBlock = some k → B ≤ k
  lor : ∀ k, rulV.ownBlock = some k → B ≤ k
  lol : ∀ k, linV.ownBlock = some k → B ≤ k
  pos : 0 < B

theorem WI.same {B : Nat} {w w' : World} {wb : Nat} {bs : List Bk} {bsV rulV linV : Value} {rs ls : List Value} (h : WI B w wb bs bsV rulV linV rs ls) (hb : Below w.heap.size w w') : WI B w' wb bs bsV rulV linV rs ls := by
  obtain ⟨m, hm⟩ := h.mx
  exact ⟨h.lists.same hb, own_kept (S := []) h.bown (Kept.of_below_size hb) (by simp), fun b hm => bk_same (h.books b hm) hb, h.apart, ⟨m, (hb.cell (p := ⟨0, 0, none⟩) (lt_of_cell hm)).trans hm⟩, Nat.le_trans h.sz hb.size, h.low, h.lob, h.lobs, h.lor, h.lol, h.pos⟩

theorem bk_sv_lt {w : World} {b : Bk} (h : BkAt w b) : ∀ k, b.sv.ownBlock = some k → k < w.heap.size := by
  obtain ⟨rv, sameV, said, R, gs, fresh, h⟩ := h
  intro k hk
  obtain ⟨cur, hc⟩ := h.ref.own_type hk
  exact lt_of_block hc

theorem bk_zero {w : World} {b : Bk} (h : BkAt w b) : 0 ∉ wrt b := by
  obtain ⟨rv2, sameV2, said2, R2, gs2, fresh2, h2⟩ := h
  simp [wrt]
  exact ⟨by have := h2.book.pos; omega, fun e => h2.prb e.symm, h2.psv⟩

/-- a step over the Book i. -/
theorem WI.step0 {B : Nat} {w w' : World} {wb i : Nat} {bs : List Bk} {bsV rulV linV : Value} {rs ls : List Value} {b : Bk} {sv' : Value} (h : WI B w wb bs bsV rulV linV rs ls) (hi : bs[i]? = some b) (hA : BA (AOf w b) w w') (hb' : BkAt w' { b with sv := sv' }) (hsv : ∀ k, sv'.ownBlock = some k → b.sv.ownBlock = some k ∨ w.heap.size ≤ k) :
    WI B w' wb (bs.set i { b with sv := sv' }) bsV rulV linV rs ls ∧ Kept (wrt b) w w' ∧ Below B w w' := by
  have hmem := List.mem_of_getElem? hi
  have hlt := (List.getElem?_eq_some_iff.1 hi).1
  have hbi : bs[i] = b := (List.getElem?_eq_some_iff.1 hi).2
  have hb := h.books b hmem
  have hK := hA.wrt
  obtain ⟨m, hm⟩ := h.mx
  have hty := wrt_type hb
  have hap : ∀ j (hj : j < bs.length), j ≠ i → Apart2 b bs[j] := by
    intro j hj hne
    rcases Nat.lt_or_ge j i with hl | hl
    · have := (List.pairwise_iff_getElem.1 h.apart) j i hj hlt hl
      rw [hbi] at this; exact this.symm
    · have := (List.pairwise_iff_getElem.1 h.apart) i j hlt hj (by omega)
      rw [hbi] at this; exact this
  have hap' : ∀ j (hj : j < bs.length), j ≠ i → Apart2 { b with sv := sv' } bs[j] := by
    intro j hj hne
    have h1 := hap j hj hne
    refine ⟨h1.1, h1.2.1, fun k hk e => ?_⟩
    rcases hsv k hk with e1 | e1
    · exact h1.2.2 k e1 e
    · have := bk_sv_lt (h.books _ (List.getElem_mem hj)) k e
      omega
  refine ⟨⟨h.lists.wrt hb hK, ?_, ?_, ?_, ⟨m, hK.cell hm (bk_zero hb)⟩, Nat.le_trans h.sz hK.size, h.low, ?_, h.lobs, h.lor, h.lol, h.pos⟩, hK, hK.below h.sz (h.lob b hmem)⟩
  · have e : (bs.set i { b with sv := sv' }).map bptr = bs.map bptr := by
      rw [List.map_set]
      apply List.ext_getElem?
      intro j
      by_cases hj : j = i
      · subst hj
        rw [List.getElem?_set_self (by simpa using hlt), List.getElem?_map, hi]
        rfl
      · rw [List.getElem?_set_ne (Ne.symm hj)]
    rw [e, List.length_set]
    refine own_kept h.bown hK ?_
    intro k hk e
    obtain ⟨c, hc⟩ := own_type h.bown e
    obtain ⟨c', t', e', h'⟩ := hty k hk
    rw [hc] at e'
    simp at e'
    rcases h' with h' | h' | h' <;> (rw [← e'.2] at h'; exact absurd h'.2 (by decide))
  · intro c hc
    rcases List.getElem_of_mem hc with ⟨j, hj, rfl⟩
    simp at hj
    by_cases hji : j = i
    · subst hji
      rw [List.getElem_set_self]
      exact hb'
    · rw [List.getElem_set_ne (Ne.symm hji)]
      exact bk_other hb (h.books _ (List.getElem_mem hj)) (hap j hj hji) hK
  · rw [List.pairwise_iff_getElem]
    intro j k hj hk hjk
    have hj' : j < bs.length := by simpa using hj
    have hk' : k < bs.length := by simpa using hk
    by_cases hji : j = i
    · subst hji
      rw [List.getElem_set_self, List.getElem_set_ne (by omega)]
      exact hap' k hk' (by omega)
    · rw [List.getElem_set_ne (Ne.symm hji)]
      by_cases hki : k = i
      · subst hki
        rw [List.getElem_set_self]
        exact (hap' j hj' (by omega)).symm
      · rw [List.getElem_set_ne (Ne.symm hki)]
        exact (List.pairwise_iff_getElem.1 h.apart) j k hj' hk' hjk
  · intro c hc k hk
    rcases List.getElem_of_mem hc with ⟨j, hj, rfl⟩
    have hj' : j < bs.length := by simpa using hj
    by_cases hji : j = i
    · subst hji
      rw [List.getElem_set_self] at hk
      simp [wrt] at hk
      rcases hk with rfl | rfl | hk
      · exact h.lob b hmem _ (by simp [wrt])
      · exact h.lob b hmem _ (by simp [wrt])
      · rcases hsv k hk with e | e
        · exact h.lob b hmem k (by simp [wrt, e])
        · exact Nat.le_trans h.sz e
    · rw [List.getElem_set_ne (Ne.symm hji)] at hk
      exact h.lob _ (List.getElem_mem hj') k hk

theorem WI.step {B : Nat} {w w' : World} {wb i : Nat} {bs : List Bk} {bsV rulV linV : Value} {rs ls : List Value} {b : Bk} (h : WI B w wb bs bsV rulV linV rs ls) (hi : bs[i]? = some b) (hA : BA (AOf w b) w w') (hR : BothR (AOf w b) w' b.xb b.bb b.rb b.gw b.cw b.L b.M) :
    ∃ sv', WI B w' wb (bs.set i { b with sv := sv' }) bsV rulV linV rs ls ∧ Kept (wrt b) w w' ∧ Below B w w' := by
  obtain ⟨sv', hb', hsv⟩ := bk_next hA hR
  exact ⟨sv', h.step0 hi hA hb' hsv⟩

theorem WI.stepN {B : Nat} {w w' : World} {wb i : Nat} {bs : List Bk} {bsV rulV linV : Value} {rs ls : List Value} {b : Bk} (h : WI B w wb bs bsV rulV linV rs ls) (hi : bs[i]? = some b) (hA : BA (AOf w b) w w') (hR : BothN (AOf w b) w w' b.xb b.bb b.rb b.gw b.cw b.L b.M) :
    ∃ bs', WI B w' wb bs' bsV rulV linV rs ls ∧ bs'.length = bs.length ∧ Below B w w' ∧ ∀ c, c ∈ bs' → BkLow w.heap.size w' c := by
  obtain ⟨sv', ⟨rv, sameV, said, R, gs, fresh, hD, hrv⟩, hsv⟩ := bk_nextN hR
  have hst := h.step0 hi hA ⟨rv, sameV, said, R, gs, fresh, hD⟩ hsv
  have hmem := List.mem_of_getElem? hi
  have hlt := (List.getElem?_eq_some_iff.1 hi).1
  have hbi : bs[i] = b := (List.getElem?_eq_some_iff.1 hi).2
  refine ⟨_, hst.1, by simp, hst.2.2, ?_⟩
  intro c hc
  rcases List.getElem_of_mem hc with ⟨j, hj, rfl⟩
  have hj' : j < bs.length := by simpa using hj
  by_cases hji : j = i
  · subst hji
    rw [List.getElem_set_self]
    exact ⟨rv, sameV, said, R, gs, fresh, hD, hrv⟩
  · rw [List.getElem_set_ne (Ne.symm hji)]
    obtain ⟨rv2, sameV2, said2, R2, gs2, fresh2, h2⟩ := h.books _ (List.getElem_mem hj')
    refine ⟨rv2, sameV2, said2, R2, gs2, fresh2, bk_otherD (h.books b hmem) h2 ?_ hA.wrt, h2.book.rul.lt⟩
    rcases Nat.lt_or_ge j i with hl | hl
    · have := (List.pairwise_iff_getElem.1 h.apart) j i hj' hlt hl
      rw [hbi] at this; exact this.symm
    · have := (List.pairwise_iff_getElem.1 h.apart) i j hlt hj' (by omega)
      rw [hbi] at this; exact this
end Go.Proofs.YtfiebibpgbadlaaGreat
