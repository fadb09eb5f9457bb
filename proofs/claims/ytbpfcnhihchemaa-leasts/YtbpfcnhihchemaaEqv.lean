import Derived.Test.YtbpfcnhihchemaaWords
namespace Hw
set_option linter.unusedVariables false
set_option linter.unusedSimpArgs false
/-! What is the same, by what is said. -/
structure Clo (L M : Nat) (said : List (Wd × Wd)) (R : Wd → Wd → Prop) : Prop where
  self : ∀ x, isWord L M x = true → R x x
  back : ∀ x y, R x y → R y x
  next : ∀ x y z, R x y → R y z → R x z
  said : ∀ p, p ∈ said → R p.1 p.2
  within : ∀ u x y v, R x y → isWord L M (u ++ x ++ v) = true → isWord L M (u ++ y ++ v) = true → R (u ++ x ++ v) (u ++ y ++ v)

def Eqv (L M : Nat) (said : List (Wd × Wd)) (x y : Wd) : Prop := ∀ R, Clo L M said R → R x y

theorem eqv_clo (L M : Nat) (said : List (Wd × Wd)) : Clo L M said (Eqv L M said) where
  self x h R c := c.self x h
  back x y h R c := c.back x y (h R c)
  next x y z h k R c := c.next x y z (h R c) (k R c)
  said p h R c := c.said p h
  within u x y v h a b R c := c.within u x y v (h R c) a b

theorem eqv_more {L M : Nat} {said said' : List (Wd × Wd)} (hs : ∀ p, p ∈ said → p ∈ said') {x y : Wd} (h : Eqv L M said x y) : Eqv L M said' x y :=
  fun R c => h R ⟨c.self, c.back, c.next, fun p hp => c.said p (hs p hp), c.within⟩

/-- the least word that is the same. -/
structure IsLeast (L M : Nat) (said : List (Wd × Wd)) (x m : Wd) : Prop where
  word : isWord L M m = true
  same : Eqv L M said x m
  least : ∀ y, isWord L M y = true → Eqv L M said x y → fold L m ≤ fold L y

theorem IsLeast.uniq {L M : Nat} (hL : L ≤ 3) {said : List (Wd × Wd)} {x m m' : Wd} (h : IsLeast L M said x m) (h' : IsLeast L M said x m') : m = m' :=
  fold_inj hL M m m' h.word h'.word (Nat.le_antisymm (h.least m' h'.word h'.same) (h'.least m h.word h.same))

theorem IsLeast.of_same {L M : Nat} {said : List (Wd × Wd)} {x y m : Wd} (h : IsLeast L M said x m) (hxy : Eqv L M said y x) : IsLeast L M said y m :=
  ⟨h.word, (eqv_clo L M said).next _ _ _ hxy h.same, fun z hz he => h.least z hz ((eqv_clo L M said).next _ _ _ ((eqv_clo L M said).back _ _ hxy) he)⟩

def wordAt (L M k : Nat) : Wd := (upTo L M).getD k []
def of (xs : List Nat) (k : Nat) : Nat := xs.getD k 0

theorem wordAt_eq {L M k : Nat} (h : k < (upTo L M).length) : wordAt L M k = (upTo L M)[k] := by simp [wordAt, h]
theorem wordAt_word {L M k : Nat} (hL : L ≤ 3) (h : k < (upTo L M).length) : isWord L M (wordAt L M k) = true := by rw [wordAt_eq h]; exact word_at hL M k h
theorem fold_wordAt {L M k : Nat} (hL : L ≤ 3) (h : k < (upTo L M).length) : fold L (wordAt L M k) = k := by rw [wordAt_eq h]; exact fold_at hL M k h
theorem wordAt_fold {L M : Nat} (hL : L ≤ 3) {s : Wd} (h : isWord L M s = true) : wordAt L M (fold L s) = s := by
  obtain ⟨h1, e⟩ := at_fold hL M s h
  rw [wordAt_eq h1, e]
theorem fold_lt_length {L M : Nat} (hL : L ≤ 3) {s : Wd} (h : isWord L M s = true) : fold L s < (upTo L M).length := (at_fold hL M s h).1

structure Good (L M : Nat) (said : List (Wd × Wd)) (xs : List Nat) : Prop where
  len : xs.length = (upTo L M).length
  le : ∀ k, k < xs.length → of xs k ≤ k
  idem : ∀ k, k < xs.length → of xs (of xs k) = of xs k
  sound : ∀ k, k < xs.length → Eqv L M said (wordAt L M k) (wordAt L M (of xs k))

def Coarser (xs ys : List Nat) : Prop := ∀ a b, a < xs.length → b < xs.length → of xs a = of xs b → of ys a = of ys b

def cnt (xs : List Nat) : Nat := (List.range xs.length).countP fun k => of xs k == k

theorem of_range {n k : Nat} (h : k < n) : of (List.range n) k = k := by simp [of, h]

theorem good_start (L M : Nat) (hL : L ≤ 3) (said : List (Wd × Wd)) : Good L M said (List.range (upTo L M).length) where
  len := by simp
  le k h := by rw [List.length_range] at h; rw [of_range h]; exact Nat.le_refl _
  idem k h := by rw [List.length_range] at h; rw [of_range h, of_range h]
  sound k h := by
    rw [List.length_range] at h; rw [of_range h]
    exact (eqv_clo L M said).self _ (wordAt_word hL h)

theorem of_map {xs : List Nat} {f : Nat → Nat} {k : Nat} (h : k < xs.length) : of (xs.map f) k = f (of xs k) := by
  simp [of, h]

theorem joinL_false {xs : List Nat} {i k : Nat} (h : (joinL xs i k).2 = false) : (joinL xs i k).1 = xs ∧ of xs i = of xs k := by
  unfold joinL at h ⊢
  split at h
  · next he => rw [if_pos he]; exact ⟨rfl, he⟩
  · cases h

theorem joinL_true {xs : List Nat} {i k : Nat} (h : (joinL xs i k).2 = true) :
    of xs i ≠ of xs k ∧ (joinL xs i k).1 = xs.map (swapTo (min (of xs i) (of xs k)) (max (of xs i) (of xs k))) := by
  unfold joinL at h ⊢
  split at h
  · cases h
  · next he => rw [if_neg he]; exact ⟨he, rfl⟩

theorem coarser_refl (xs : List Nat) : Coarser xs xs := fun _ _ _ _ h => h
theorem coarser_trans {xs ys zs : List Nat} (hl : xs.length = ys.length) (h : Coarser xs ys) (k : Coarser ys zs) : Coarser xs zs :=
  fun a b ha hb e => k a b (hl ▸ ha) (hl ▸ hb) (h a b ha hb e)
theorem coarser_join (xs : List Nat) (i k : Nat) : Coarser xs (joinL xs i k).1 := by
  cases hb : (joinL xs i k).2 with
  | false => rw [(joinL_false hb).1]; exact coarser_refl xs
  | true =>
    rw [(joinL_true hb).2]
    intro a b ha hb e
    rw [of_map ha, of_map hb, e]

theorem join_same {L M : Nat} {said : List (Wd × Wd)} {xs : List Nat} (g : Good L M said xs) {i k : Nat} (hi : i < xs.length) (hk : k < xs.length) : of (joinL xs i k).1 i = of (joinL xs i k).1 k := by
  cases hb : (joinL xs i k).2 with
  | false => rw [(joinL_false hb).1]; exact (joinL_false hb).2
  | true =>
    rw [(joinL_true hb).2, of_map hi, of_map hk]
    unfold swapTo
    split <;> split <;> omega

theorem good_join {L M : Nat} {said : List (Wd × Wd)} {xs : List Nat} (g : Good L M said xs) {i k : Nat} (hi : i < xs.length) (hk : k < xs.length)
    (he : Eqv L M said (wordAt L M i) (wordAt L M k)) : Good L M said (joinL xs i k).1 := by
  cases hb : (joinL xs i k).2 with
  | false => rw [(joinL_false hb).1]; exact g
  | true =>
    obtain ⟨hne, e⟩ := joinL_true hb
    have C := eqv_clo L M said
    have hxi : of xs i < xs.length := Nat.lt_of_le_of_lt (g.le i hi) hi
    have hxk : of xs k < xs.length := Nat.lt_of_le_of_lt (g.le k hk) hk
    have hEE : Eqv L M said (wordAt L M (of xs i)) (wordAt L M (of xs k)) :=
      C.next _ _ _ (C.back _ _ (g.sound i hi)) (C.next _ _ _ he (g.sound k hk))
    rw [e]
    generalize hx : min (of xs i) (of xs k) = x
    generalize hy : max (of xs i) (of xs k) = y
    have hxy : x < y := by omega
    have hyl : y < xs.length := by omega
    have hfx : of xs x = x := by
      rcases (show x = of xs i ∨ x = of xs k by omega) with h | h
      · rw [h]; exact g.idem i hi
      · rw [h]; exact g.idem k hk
    have hEx : Eqv L M said (wordAt L M y) (wordAt L M x) := by
      rcases (show (x = of xs i ∧ y = of xs k) ∨ (x = of xs k ∧ y = of xs i) by omega) with ⟨h1, h2⟩ | ⟨h1, h2⟩
      · rw [h1, h2]; exact C.back _ _ hEE
      · rw [h1, h2]; exact hEE
    constructor
    · rw [List.length_map]; exact g.len
    · intro j hj
      rw [List.length_map] at hj
      rw [of_map hj]
      have := g.le j hj
      unfold swapTo
      split <;> omega
    · intro j hj
      rw [List.length_map] at hj
      have hle := g.le j hj
      rw [of_map hj]
      unfold swapTo
      split
      · next h1 => rw [of_map (by omega), hfx]; rw [if_neg (by omega)]
      · next h1 => rw [of_map (by omega), g.idem j hj]; rw [if_neg h1]
    · intro j hj
      rw [List.length_map] at hj
      rw [of_map hj]
      unfold swapTo
      split
      · next h1 => exact C.next _ _ _ (g.sound j hj) (by rw [h1]; exact hEx)
      · exact g.sound j hj

theorem countP_lt {p q : Nat → Bool} : ∀ (l : List Nat), (∀ x, x ∈ l → q x = true → p x = true) → (∃ x, x ∈ l ∧ p x = true ∧ q x = false) → l.countP q < l.countP p
  | [], _, ⟨x, hx, _⟩ => by cases hx
  | a :: l, h, ⟨x, hx, hp, hq⟩ => by
    rw [List.countP_cons, List.countP_cons]
    have hle : l.countP q ≤ l.countP p := List.countP_mono_left fun y hy => h y (List.mem_cons_of_mem _ hy)
    rcases List.mem_cons.1 hx with rfl | hx'
    · rw [hp, hq]; simp; omega
    · have := countP_lt l (fun y hy => h y (List.mem_cons_of_mem _ hy)) ⟨x, hx', hp, hq⟩
      have ha := h a (List.mem_cons_self)
      cases hqa : q a with
      | true => rw [ha hqa]; simp; omega
      | false => simp; split <;> omega

theorem cnt_join {L M : Nat} {said : List (Wd × Wd)} {xs : List Nat} (g : Good L M said xs) {i k : Nat} (hi : i < xs.length) (hk : k < xs.length) (hb : (joinL xs i k).2 = true) :
    cnt (joinL xs i k).1 < cnt xs := by
  obtain ⟨hne, e⟩ := joinL_true hb
  have h1 := g.le i hi
  have h2 := g.le k hk
  have i1 := g.idem i hi
  have i2 := g.idem k hk
  rw [e]
  unfold cnt
  rw [List.length_map]
  generalize hx : min (of xs i) (of xs k) = x
  generalize hy : max (of xs i) (of xs k) = y
  apply countP_lt
  · intro j hj hq
    rw [List.mem_range] at hj
    rw [beq_iff_eq] at hq ⊢
    rw [of_map hj] at hq
    unfold swapTo at hq
    split at hq
    · next h => rcases (show x = of xs i ∨ x = of xs k by omega) with hh | hh
                · rw [← hq, hh]; exact i1
                · rw [← hq, hh]; exact i2
    · exact hq
  · refine ⟨y, by rw [List.mem_range]; omega, ?_, ?_⟩
    · rw [beq_iff_eq]
      rcases (show y = of xs i ∨ y = of xs k by omega) with hh | hh
      · rw [hh]; exact i1
      · rw [hh]; exact i2
    · rw [beq_eq_false_iff_ne, of_map (by omega)]
      have hfy : of xs y = y := by
        rcases (show y = of xs i ∨ y = of xs k by omega) with hh | hh
        · rw [hh]; exact i1
        · rw [hh]; exact i2
      rw [hfy]; unfold swapTo; rw [if_pos rfl]; omega

/-- a piece of the word i is replaced: that tells nothing new. -/
def PieceDone (L M : Nat) (xs : List Nat) (i a t : Nat) : Prop :=
  of xs i = of xs (fold L ((wordAt L M i).take a ++ wordAt L M (of xs (fold L (((wordAt L M i).take t).drop a))) ++ (wordAt L M i).drop t))

structure Done (L M : Nat) (said : List (Wd × Wd)) (xs : List Nat) : Prop where
  good : Good L M said xs
  said : ∀ p, p ∈ said → of xs (fold L p.1) = of xs (fold L p.2)
  piece : ∀ i, i < xs.length → ∀ a t, a ≤ t → t ≤ (wordAt L M i).length → PieceDone L M xs i a t

theorem isWord_piece {L M : Nat} {u x v : Wd} (h : isWord L M (u ++ x ++ v) = true) : isWord L M x = true := by
  rw [isWord_iff, all_append3, Bool.and_eq_true, Bool.and_eq_true] at h
  rw [isWord_iff]
  refine ⟨h.1.1.2, ?_⟩
  have := h.2; simp at this; omega

theorem Done.iff {L M : Nat} (hL : L ≤ 3) {said : List (Wd × Wd)} {xs : List Nat} (d : Done L M said xs) (hsaid : ∀ p, p ∈ said → isWord L M p.1 = true ∧ isWord L M p.2 = true)
    {x y : Wd} (hx : isWord L M x = true) (hy : isWord L M y = true) : Eqv L M said x y ↔ of xs (fold L x) = of xs (fold L y) := by
  have g := d.good
  have C := eqv_clo L M said
  constructor
  · intro h
    have key : ∀ u x v, isWord L M (u ++ x ++ v) = true → of xs (fold L (u ++ x ++ v)) = of xs (fold L (u ++ wordAt L M (of xs (fold L x)) ++ v)) := by
      intro u x v hw
      have hl := fold_lt_length hL hw
      have := d.piece (fold L (u ++ x ++ v)) (by rw [g.len]; exact hl) u.length (u.length + x.length) (by omega) (by rw [wordAt_fold hL hw]; simp)
      unfold PieceDone at this
      rw [wordAt_fold hL hw] at this
      have e1 : (u ++ x ++ v).take u.length = u := by simp
      have e2 : ((u ++ x ++ v).take (u.length + x.length)).drop u.length = x := by
        rw [List.take_append_of_le_length (by simp), List.take_of_length_le (by simp)]; simp
      have e3 : (u ++ x ++ v).drop (u.length + x.length) = v := by
        rw [show u.length + x.length = (u ++ x).length by simp, List.drop_left]
      rw [e1, e2, e3] at this
      exact this
    have hR := h (fun a b => isWord L M a = true ∧ isWord L M b = true ∧ of xs (fold L a) = of xs (fold L b)) ?_
    · exact hR.2.2
    · constructor
      · exact fun x hx => ⟨hx, hx, rfl⟩
      · rintro x y ⟨a, b, c⟩; exact ⟨b, a, c.symm⟩
      · rintro x y z ⟨a, b, c⟩ ⟨a', b', c'⟩; exact ⟨a, b', c.trans c'⟩
      · intro p hp; exact ⟨(hsaid p hp).1, (hsaid p hp).2, d.said p hp⟩
      · rintro u x y v ⟨a, b, c⟩ h1 h2
        exact ⟨h1, h2, by rw [key u x v h1, key u y v h2, c]⟩
  · intro h
    have hxl := fold_lt_length hL hx
    have hyl := fold_lt_length hL hy
    have s1 := g.sound (fold L x) (by rw [g.len]; exact hxl)
    have s2 := g.sound (fold L y) (by rw [g.len]; exact hyl)
    rw [wordAt_fold hL hx] at s1
    rw [wordAt_fold hL hy, ← h] at s2
    exact C.next _ _ _ s1 (C.back _ _ s2)

theorem Done.least {L M : Nat} (hL : L ≤ 3) {said : List (Wd × Wd)} {xs : List Nat} (d : Done L M said xs) (hsaid : ∀ p, p ∈ said → isWord L M p.1 = true ∧ isWord L M p.2 = true)
    {x : Wd} (hx : isWord L M x = true) : IsLeast L M said x (wordAt L M (of xs (fold L x))) := by
  have g := d.good
  have hxl : fold L x < xs.length := by rw [g.len]; exact fold_lt_length hL hx
  have hle := g.le (fold L x) hxl
  have hl2 : of xs (fold L x) < (upTo L M).length := by rw [← g.len]; omega
  refine ⟨wordAt_word hL hl2, ?_, ?_⟩
  · have := g.sound (fold L x) hxl
    rw [wordAt_fold hL hx] at this
    exact this
  · intro y hy he
    rw [fold_wordAt hL hl2, (d.iff hL hsaid hx hy).1 he]
    exact g.le _ (by rw [g.len]; exact fold_lt_length hL hy)

theorem piece_word {L M : Nat} (hL : L ≤ 3) {said : List (Wd × Wd)} {xs : List Nat} (g : Good L M said xs) {w : Wd} (hw : isWord L M w = true) (a t : Nat) (hat : a ≤ t) (ht : t ≤ w.length) :
    isWord L M ((w.take t).drop a) = true ∧ fold L ((w.take t).drop a) < xs.length ∧ of xs (fold L ((w.take t).drop a)) < xs.length ∧
    isWord L M (w.take a ++ wordAt L M (of xs (fold L ((w.take t).drop a))) ++ w.drop t) = true ∧
    Eqv L M said w (w.take a ++ wordAt L M (of xs (fold L ((w.take t).drop a))) ++ w.drop t) := by
  have C := eqv_clo L M said
  have e : w.take a ++ (w.take t).drop a ++ w.drop t = w := by
    have h1 : w.take a = (w.take t).take a := by rw [List.take_take]; congr 1; omega
    rw [h1, List.take_append_drop, List.take_append_drop]
  have hp : isWord L M ((w.take t).drop a) = true := isWord_piece (u := w.take a) (v := w.drop t) (by rw [e]; exact hw)
  have hl : fold L ((w.take t).drop a) < xs.length := by rw [g.len]; exact fold_lt_length hL hp
  have hle := g.le _ hl
  have hl2 : of xs (fold L ((w.take t).drop a)) < (upTo L M).length := by rw [← g.len]; omega
  have hw2 := wordAt_word hL hl2
  have hs := g.sound _ hl
  rw [wordAt_fold hL hp] at hs
  have hlen : (wordAt L M (of xs (fold L ((w.take t).drop a)))).length ≤ ((w.take t).drop a).length := by
    apply length_le_of_fold hL ((isWord_iff _ _ _).1 hw2).1 ((isWord_iff _ _ _).1 hp).1
    rw [fold_wordAt hL hl2]; exact hle
  have hword : isWord L M (w.take a ++ wordAt L M (of xs (fold L ((w.take t).drop a))) ++ w.drop t) = true := by
    have hww := hw
    rw [← e, isWord_iff, all_append3, Bool.and_eq_true, Bool.and_eq_true] at hww
    rw [isWord_iff, all_append3, hww.1.1.1, hww.1.2, ((isWord_iff _ _ _).1 hw2).1]
    refine ⟨rfl, ?_⟩
    have h3 := hww.2
    rw [List.length_append, List.length_append] at h3 ⊢
    omega
  refine ⟨hp, hl, by omega, hword, ?_⟩
  have := C.within (w.take a) _ _ (w.drop t) hs (by rw [e]; exact hw) hword
  rw [e] at this
  exact this

theorem piece_same {L M : Nat} (hL : L ≤ 3) {xs : List Nat} {i a t : Nat} {S : Wd} (hS : wordAt L M i = S) (hi : i < (upTo L M).length) (hat : a ≤ t)
    (hk : of xs (fold L ((S.take t).drop a)) = fold L ((S.take t).drop a)) : PieceDone L M xs i a t := by
  have hw : isWord L M S = true := by rw [← hS]; exact wordAt_word hL hi
  have hf : fold L S = i := by rw [← hS]; exact fold_wordAt hL hi
  have e : S.take a ++ (S.take t).drop a ++ S.drop t = S := by
    have h1 : S.take a = (S.take t).take a := by rw [List.take_take]; congr 1; omega
    rw [h1, List.take_append_drop, List.take_append_drop]
  have hp : isWord L M ((S.take t).drop a) = true := isWord_piece (u := S.take a) (v := S.drop t) (by rw [e]; exact hw)
  unfold PieceDone
  rw [hS, hk, wordAt_fold hL hp, e, hf]
end Hw
