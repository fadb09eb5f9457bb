
namespace Hw
set_option linter.unusedVariables false
set_option linter.unusedSimpArgs false
abbrev Wd := List UInt8

def okc (L : Nat) (c : UInt8) : Bool := decide (97 ≤ c.toNat) && decide (c.toNat < 97 + L)

def isWord (L M : Nat) (s : Wd) : Bool := s.all (okc L) && decide (s.length ≤ M)

def fold (L : Nat) (s : Wd) : Nat := s.foldl (fun n c => n * L + (c.toNat - 97) + 1) 0

def index (L : Nat) (s : Wd) : Nat := if L = 1 then s.length else fold L s

theorem take_snoc (s : Wd) (k : Nat) (h : k < s.length) : s.take (k + 1) = s.take k ++ [s[k]] := by
  rw [List.take_succ_eq_append_getElem h]

theorem fold_snoc (L : Nat) (s : Wd) (c : UInt8) : fold L (s ++ [c]) = fold L s * L + (c.toNat - 97) + 1 := by
  simp [fold, List.foldl_append]

theorem all_take_succ (p : UInt8 → Bool) (s : Wd) (k : Nat) (h : k < s.length) : (s.take (k + 1)).all p = ((s.take k).all p && p s[k]) := by
  rw [take_snoc s k h, List.all_append]; simp

theorem not_all_of (p : UInt8 → Bool) (s : Wd) (k : Nat) (h : k < s.length) (hp : p s[k] = false) : s.all p = false := by
  rw [List.all_eq_false]
  exact ⟨s[k], List.getElem_mem h, by simp [hp]⟩

theorem fold_lt_from (L : Nat) (s : Wd) : ∀ a : Nat, s.all (okc L) = true → s.foldl (fun n c => n * L + (c.toNat - 97) + 1) a + 1 ≤ (a + 1) * (L + 1) ^ s.length := by
  induction s with
  | nil => intro a _; simp
  | cons c s ih =>
    intro a h
    rw [List.all_cons, Bool.and_eq_true] at h
    have hc : c.toNat < 97 + L := by have := h.1; simp [okc] at this; omega
    have hc' : 97 ≤ c.toNat := by have := h.1; simp [okc] at this; omega
    have h1 := ih (a * L + (c.toNat - 97) + 1) h.2
    rw [List.foldl_cons, List.length_cons, Nat.pow_succ, Nat.mul_comm ((L + 1) ^ s.length), ← Nat.mul_assoc]
    refine Nat.le_trans h1 (Nat.mul_le_mul_right _ ?_)
    have h2 : (a + 1) * (L + 1) = a * L + a + L + 1 := by rw [Nat.add_mul, Nat.mul_add]; omega
    omega

theorem fold_lt (L : Nat) (s : Wd) (h : s.all (okc L) = true) : fold L s + 1 ≤ (L + 1) ^ s.length := by
  have := fold_lt_from L s 0 h
  simpa [fold] using this

/-! what is the same: a list of places -/
def swapTo (x y v : Nat) : Nat := if v = y then x else v

def joinTo (xs : List Nat) (x y j : Nat) : List Nat := (xs.take j).map (swapTo x y) ++ xs.drop j

def joinL (xs : List Nat) (i k : Nat) : List Nat × Bool :=
  if xs.getD i 0 = xs.getD k 0 then (xs, false)
  else (xs.map (swapTo (min (xs.getD i 0) (xs.getD k 0)) (max (xs.getD i 0) (xs.getD k 0))), true)

theorem joinTo_zero (xs : List Nat) (x y : Nat) : joinTo xs x y 0 = xs := by simp [joinTo]
theorem joinTo_all (xs : List Nat) (x y j : Nat) (h : xs.length ≤ j) : joinTo xs x y j = xs.map (swapTo x y) := by
  simp [joinTo, List.take_of_length_le h, List.drop_eq_nil_of_le h]
theorem length_joinTo (xs : List Nat) (x y j : Nat) : (joinTo xs x y j).length = xs.length := by
  simp [joinTo, List.length_take, List.length_drop]; omega
theorem joinTo_at (xs : List Nat) (x y j : Nat) (h : j < xs.length) (h' : j < (joinTo xs x y j).length) : (joinTo xs x y j)[j] = xs[j] := by
  have hl : ((xs.take j).map (swapTo x y)).length = j := by simp; omega
  have e : (joinTo xs x y j)[j]? = some xs[j] := by
    unfold joinTo
    rw [List.getElem?_append_right (by omega), hl, Nat.sub_self, List.getElem?_drop]
    simp [h]
  rw [List.getElem?_eq_getElem h'] at e
  exact Option.some.inj e
theorem joinTo_succ (xs : List Nat) (x y j : Nat) (h : j < xs.length) : joinTo xs x y (j + 1) = (joinTo xs x y j).set j (swapTo x y xs[j]) := by
  have hl : ((xs.take j).map (swapTo x y)).length = j := by simp; omega
  unfold joinTo
  rw [List.set_append_right _ _ (by omega), hl, Nat.sub_self, List.drop_eq_getElem_cons h, List.set_cons_zero, List.take_succ_eq_append_getElem h, List.map_append]
  simp only [List.map_cons, List.map_nil, List.append_assoc, List.cons_append, List.nil_append]
theorem joinTo_succ_same (xs : List Nat) (x y j : Nat) (h : j < xs.length) (hv : ¬ xs[j] = y) : joinTo xs x y (j + 1) = joinTo xs x y j := by
  unfold joinTo
  rw [List.take_succ_eq_append_getElem h, List.drop_eq_getElem_cons h, List.map_append]
  simp only [List.map_cons, List.map_nil, List.append_assoc, List.cons_append, List.nil_append, swapTo, if_neg hv]
theorem length_joinL (xs : List Nat) (i k : Nat) : (joinL xs i k).1.length = xs.length := by
  unfold joinL; split <;> simp
end Hw
namespace Hw
set_option linter.unusedVariables false
set_option linter.unusedSimpArgs false
/-! All words there are, the least first; the place of a word. -/
def letters (L : Nat) : List UInt8 := (List.range L).map fun d => UInt8.ofNat (97 + d)
def nextLevel (L : Nat) (l : List Wd) : List Wd := l.flatMap fun w => (letters L).map fun c => w ++ [c]
def level (L : Nat) : Nat → List Wd
  | 0 => [[]]
  | n + 1 => nextLevel L (level L n)
def upTo (L : Nat) : Nat → List Wd
  | 0 => level L 0
  | n + 1 => upTo L n ++ level L (n + 1)
def off (L : Nat) : Nat → Nat
  | 0 => 0
  | n + 1 => off L n + L ^ n

theorem off_succ (L n : Nat) : off L (n + 1) = off L n * L + 1 := by
  induction n with
  | zero => simp [off]
  | succ n ih =>
    show off L (n + 1) + L ^ (n + 1) = off L (n + 1) * L + 1
    rw [ih, Nat.pow_succ, Nat.add_mul (off L n * L)]
    have : off L (n + 1) = off L n + L ^ n := rfl
    have h2 : off L (n + 1) * L = off L n * L + L ^ n * L := by rw [this, Nat.add_mul]
    rw [ih, Nat.add_mul] at h2
    omega

theorem toNat_letter {L d : Nat} (hL : L ≤ 3) (hd : d < L) : (UInt8.ofNat (97 + d)).toNat = 97 + d := by
  simp [UInt8.toNat_ofNat']; omega

theorem range'_flat (L : Nat) : ∀ (c o : Nat), (List.range' o c).flatMap (fun m => List.range' (m * L + 1) L) = List.range' (o * L + 1) (c * L) := by
  intro c
  induction c with
  | zero => intro o; simp
  | succ c ih =>
    intro o
    rw [List.range'_succ, List.flatMap_cons, ih (o + 1)]
    have e : (c + 1) * L = L + c * L := by rw [Nat.add_mul]; omega
    have e2 : (o + 1) * L + 1 = o * L + 1 + L := by rw [Nat.add_mul]; omega
    rw [e, e2]
    have := List.range'_append_1 (s := o * L + 1) (m := L) (n := c * L)
    rw [← this]

theorem map_range_range' (a n : Nat) : (List.range n).map (fun d => a + d) = List.range' a n := by
  rw [List.range'_eq_map_range]

theorem fold_letters {L : Nat} (hL : L ≤ 3) (w : Wd) : ((letters L).map fun c => fold L (w ++ [c])) = List.range' (fold L w * L + 1) L := by
  unfold letters
  rw [List.map_map, ← map_range_range']
  apply List.map_congr_left
  intro d hd
  rw [List.mem_range] at hd
  show fold L (w ++ [UInt8.ofNat (97 + d)]) = _
  rw [fold_snoc, toNat_letter hL hd]
  omega

theorem fold_nextLevel {L : Nat} (hL : L ≤ 3) (l : List Wd) : (nextLevel L l).map (fold L) = (l.map (fold L)).flatMap fun m => List.range' (m * L + 1) L := by
  induction l with
  | nil => rfl
  | cons w l ih =>
    show ((letters L).map (fun c => w ++ [c]) ++ nextLevel L l).map (fold L) = _
    rw [List.map_append, ih, List.map_cons, List.flatMap_cons, List.map_map]
    congr 1
    exact fold_letters hL w

theorem fold_level {L : Nat} (hL : L ≤ 3) (n : Nat) : (level L n).map (fold L) = List.range' (off L n) (L ^ n) := by
  induction n with
  | zero => simp [level, off, fold]
  | succ n ih =>
    show (nextLevel L (level L n)).map (fold L) = _
    rw [fold_nextLevel hL, ih, range'_flat, off_succ, Nat.pow_succ]

theorem fold_upTo {L : Nat} (hL : L ≤ 3) (n : Nat) : (upTo L n).map (fold L) = List.range' 0 (off L (n + 1)) := by
  induction n with
  | zero => simp [upTo, level, fold, off]
  | succ n ih =>
    show (upTo L n ++ level L (n + 1)).map (fold L) = _
    rw [List.map_append, ih, fold_level hL]
    have : off L (n + 1 + 1) = off L (n + 1) + L ^ (n + 1) := rfl
    rw [this]
    have := List.range'_append_1 (s := 0) (m := off L (n + 1)) (n := L ^ (n + 1))
    rw [Nat.zero_add] at this
    exact this

theorem length_level {L : Nat} (hL : L ≤ 3) (n : Nat) : (level L n).length = L ^ n := by
  have := congrArg List.length (fold_level hL n)
  simpa using this
theorem length_upTo {L : Nat} (hL : L ≤ 3) (n : Nat) : (upTo L n).length = off L (n + 1) := by
  have := congrArg List.length (fold_upTo hL n)
  simpa using this

theorem fold_at {L : Nat} (hL : L ≤ 3) (M k : Nat) (h : k < (upTo L M).length) : fold L ((upTo L M)[k]) = k := by
  have e := fold_upTo hL M
  have h1 : ((upTo L M).map (fold L))[k]? = (List.range' 0 (off L (M + 1)))[k]? := by rw [e]
  rw [List.getElem?_map, List.getElem?_eq_getElem h, List.getElem?_range' (by rw [← length_upTo hL]; exact h)] at h1
  simpa using h1

theorem mem_letters {L : Nat} (hL : L ≤ 3) (c : UInt8) : c ∈ letters L ↔ okc L c = true := by
  unfold letters
  rw [List.mem_map]
  constructor
  · rintro ⟨d, hd, rfl⟩
    rw [List.mem_range] at hd
    have := toNat_letter hL hd
    simp [okc]; omega
  · intro h
    simp [okc] at h
    refine ⟨c.toNat - 97, by rw [List.mem_range]; omega, ?_⟩
    have : 97 + (c.toNat - 97) = c.toNat := by omega
    rw [this, UInt8.ofNat_toNat]

theorem mem_level {L : Nat} (hL : L ≤ 3) : ∀ (n : Nat) (s : Wd), s ∈ level L n ↔ s.length = n ∧ s.all (okc L) = true := by
  intro n
  induction n with
  | zero =>
    intro s
    simp only [level, List.mem_singleton]
    constructor
    · rintro rfl; simp
    · rintro ⟨h, _⟩; exact List.length_eq_zero_iff.1 h
  | succ n ih =>
    intro s
    show s ∈ (level L n).flatMap _ ↔ _
    rw [List.mem_flatMap]
    constructor
    · rintro ⟨w, hw, hs⟩
      rw [List.mem_map] at hs
      obtain ⟨c, hc, rfl⟩ := hs
      obtain ⟨h1, h2⟩ := (ih w).1 hw
      rw [List.all_append, h2]
      exact ⟨by simp [h1], by simp [(mem_letters hL c).1 hc]⟩
    · rintro ⟨h1, h2⟩
      have hne : s ≠ [] := by intro e; rw [e] at h1; simp at h1
      have e := List.dropLast_concat_getLast hne
      refine ⟨s.dropLast, (ih _).2 ⟨by rw [List.length_dropLast]; omega, ?_⟩, ?_⟩
      · rw [List.all_eq_true] at h2 ⊢
        exact fun x hx => h2 x (List.dropLast_subset s hx)
      · rw [List.mem_map]
        refine ⟨s.getLast hne, (mem_letters hL _).2 ?_, e⟩
        rw [List.all_eq_true] at h2
        exact h2 _ (List.getLast_mem hne)

theorem mem_upTo {L : Nat} (hL : L ≤ 3) (M : Nat) (s : Wd) : s ∈ upTo L M ↔ isWord L M s = true := by
  unfold isWord
  rw [Bool.and_eq_true, decide_eq_true_eq]
  induction M with
  | zero =>
    show s ∈ level L 0 ↔ _
    rw [mem_level hL]
    constructor
    · rintro ⟨h1, h2⟩; exact ⟨h2, by omega⟩
    · rintro ⟨h1, h2⟩; exact ⟨by omega, h1⟩
  | succ M ih =>
    show s ∈ upTo L M ++ level L (M + 1) ↔ _
    rw [List.mem_append, ih, mem_level hL]
    constructor
    · rintro (⟨h1, h2⟩ | ⟨h1, h2⟩)
      · exact ⟨h1, by omega⟩
      · exact ⟨h2, by omega⟩
    · rintro ⟨h1, h2⟩
      by_cases h : s.length ≤ M
      · exact Or.inl ⟨h1, h⟩
      · exact Or.inr ⟨by omega, h1⟩

theorem at_fold {L : Nat} (hL : L ≤ 3) (M : Nat) (s : Wd) (h : isWord L M s = true) : ∃ hk : fold L s < (upTo L M).length, (upTo L M)[fold L s] = s := by
  obtain ⟨k, hk, e⟩ := List.getElem_of_mem ((mem_upTo hL M s).2 h)
  have := fold_at hL M k hk
  rw [e] at this
  subst this
  exact ⟨hk, e⟩

theorem word_at {L : Nat} (hL : L ≤ 3) (M k : Nat) (h : k < (upTo L M).length) : isWord L M ((upTo L M)[k]) = true :=
  (mem_upTo hL M _).1 (List.getElem_mem h)

theorem fold_inj {L : Nat} (hL : L ≤ 3) (M : Nat) (s t : Wd) (hs : isWord L M s = true) (ht : isWord L M t = true) (h : fold L s = fold L t) : s = t := by
  obtain ⟨h1, e1⟩ := at_fold hL M s hs
  obtain ⟨h2, e2⟩ := at_fold hL M t ht
  have : (upTo L M)[fold L s] = (upTo L M)[fold L t] := by simp only [h]
  rw [e1, e2] at this
  exact this

theorem foldl_eq (L : Nat) (s : Wd) : ∀ a : Nat, s.foldl (fun n c => n * L + (c.toNat - 97) + 1) a = a * L ^ s.length + fold L s := by
  induction s with
  | nil => intro a; simp [fold]
  | cons c s ih =>
    intro a
    unfold fold
    rw [List.foldl_cons, List.foldl_cons, ih, ih (0 * L + (c.toNat - 97) + 1), List.length_cons, Nat.pow_succ]
    have e1 : (a * L + (c.toNat - 97) + 1) * L ^ s.length = a * (L ^ s.length * L) + ((c.toNat - 97) + 1) * L ^ s.length := by
      rw [Nat.add_assoc, Nat.add_mul, Nat.mul_assoc, Nat.mul_comm L]
    have e2 : (0 * L + (c.toNat - 97) + 1) = (c.toNat - 97) + 1 := by omega
    rw [e1, e2]; omega

theorem fold_append (L : Nat) (s t : Wd) : fold L (s ++ t) = fold L s * L ^ t.length + fold L t := by
  rw [← foldl_eq]; simp [fold, List.foldl_append]

theorem fold_range {L : Nat} (hL : L ≤ 3) (s : Wd) (h : s.all (okc L) = true) : off L s.length ≤ fold L s ∧ fold L s < off L (s.length + 1) := by
  have hm := (mem_level hL s.length s).2 ⟨rfl, h⟩
  have : fold L s ∈ (level L s.length).map (fold L) := List.mem_map_of_mem hm
  rw [fold_level hL, List.mem_range'_1] at this
  exact ⟨this.1, this.2⟩

theorem off_mono (L : Nat) {n m : Nat} (h : n ≤ m) : off L n ≤ off L m := by
  induction h with
  | refl => exact Nat.le_refl _
  | step h ih => exact Nat.le_trans ih (Nat.le_add_right _ _)

theorem fold_lt_of_length {L : Nat} (hL : L ≤ 3) {s t : Wd} (hs : s.all (okc L) = true) (ht : t.all (okc L) = true) (h : s.length < t.length) : fold L s < fold L t :=
  Nat.lt_of_lt_of_le (fold_range hL s hs).2 (Nat.le_trans (off_mono L h) (fold_range hL t ht).1)

theorem length_le_of_fold {L : Nat} (hL : L ≤ 3) {s t : Wd} (hs : s.all (okc L) = true) (ht : t.all (okc L) = true) (h : fold L s ≤ fold L t) : s.length ≤ t.length :=
  Nat.le_of_not_lt fun hlt => by have := fold_lt_of_length hL ht hs hlt; omega

theorem isWord_iff (L M : Nat) (s : Wd) : isWord L M s = true ↔ s.all (okc L) = true ∧ s.length ≤ M := by
  unfold isWord; rw [Bool.and_eq_true, decide_eq_true_eq]

theorem index_eq {L M : Nat} {s : Wd} (h : isWord L M s = true) : index L s = fold L s := by
  unfold index
  split
  · next h1 =>
    subst h1
    have hs := ((isWord_iff 1 M s).1 h).1
    clear h
    have : ∀ (s : Wd) (a : Nat), s.all (okc 1) = true → s.foldl (fun n c => n * 1 + (c.toNat - 97) + 1) a = a + s.length := by
      intro s
      induction s with
      | nil => intro a _; rfl
      | cons c s ih =>
        intro a h
        rw [List.all_cons, Bool.and_eq_true] at h
        rw [List.foldl_cons, ih _ h.2, List.length_cons]
        have := h.1; simp [okc] at this; omega
    have := this s 0 hs
    rw [Nat.zero_add] at this
    exact this.symm
  · rfl

theorem all_append3 (p : UInt8 → Bool) (u x v : Wd) : (u ++ x ++ v).all p = (u.all p && x.all p && v.all p) := by rw [List.all_append, List.all_append]

/-- less within letters. -/
theorem fold_within {L : Nat} (hL : L ≤ 3) {x y : Wd} (u v : Wd) (hu : u.all (okc L) = true) (hv : v.all (okc L) = true) (hx : x.all (okc L) = true) (hy : y.all (okc L) = true) (hL1 : 1 ≤ L)
    (h : fold L x < fold L y) : fold L (u ++ x ++ v) < fold L (u ++ y ++ v) := by
  have hl := length_le_of_fold hL hx hy (Nat.le_of_lt h)
  by_cases he : x.length = y.length
  · rw [fold_append, fold_append, fold_append, fold_append L u y, he]
    have hp : 0 < L ^ v.length := Nat.pow_pos (by omega)
    have : (fold L u * L ^ y.length + fold L x) * L ^ v.length < (fold L u * L ^ y.length + fold L y) * L ^ v.length :=
      Nat.mul_lt_mul_of_pos_right (by omega) hp
    omega
  · apply fold_lt_of_length hL
    · rw [all_append3, hu, hx, hv]; rfl
    · rw [all_append3, hu, hy, hv]; rfl
    · simp; omega

/-! how New makes the words -/
def midTo (L n j : Nat) : List Wd := upTo L n ++ nextLevel L ((level L n).take j)
def inTo (L n j c : Nat) : List Wd := midTo L n j ++ ((letters L).take c).map fun x => (level L n).getD j [] ++ [x]

theorem midTo_zero (L n : Nat) : midTo L n 0 = upTo L n := by simp [midTo, nextLevel]
theorem midTo_all {L : Nat} (hL : L ≤ 3) (n j : Nat) (h : L ^ n ≤ j) : midTo L n j = upTo L (n + 1) := by
  unfold midTo
  rw [List.take_of_length_le (by rw [length_level hL]; exact h)]
  rfl
theorem inTo_zero (L n j : Nat) : inTo L n j 0 = midTo L n j := by simp [inTo]
theorem inTo_all {L : Nat} (hL : L ≤ 3) (n j : Nat) (hj : j < L ^ n) (c : Nat) (hc : L ≤ c) : inTo L n j c = midTo L n (j + 1) := by
  have hj' : j < (level L n).length := by rw [length_level hL]; exact hj
  unfold inTo midTo
  rw [show (letters L).take c = letters L from List.take_of_length_le (by simp [letters]; omega), List.take_succ_eq_append_getElem hj', List.append_assoc]
  congr 1
  unfold nextLevel
  rw [List.flatMap_append]
  simp [hj']
theorem inTo_succ {L : Nat} (n j c : Nat) (hc : c < L) : inTo L n j (c + 1) = inTo L n j c ++ [(level L n).getD j [] ++ [UInt8.ofNat (97 + c)]] := by
  have h : c < (letters L).length := by simp [letters]; exact hc
  unfold inTo
  rw [List.take_succ_eq_append_getElem h, List.map_append, ← List.append_assoc]
  simp [letters]

theorem midTo_prefix {L : Nat} (hL : L ≤ 3) (n j : Nat) : ∃ r, upTo L (n + 1) = midTo L n j ++ r := by
  refine ⟨nextLevel L ((level L n).drop j), ?_⟩
  unfold midTo nextLevel
  rw [List.append_assoc, ← List.flatMap_append, List.take_append_drop]
  rfl
theorem inTo_le {L : Nat} (hL : L ≤ 3) (n j c : Nat) (hj : j < L ^ n) : (inTo L n j c).length ≤ (upTo L (n + 1)).length := by
  have h1 : (inTo L n j c).length ≤ (inTo L n j (max c L)).length := by
    unfold inTo
    rw [List.length_append, List.length_append, List.length_map, List.length_map, List.length_take, List.length_take]
    omega
  rw [inTo_all hL n j hj _ (Nat.le_max_right c L)] at h1
  obtain ⟨r, hr⟩ := midTo_prefix hL n (j + 1)
  have := congrArg List.length hr
  rw [List.length_append] at this
  omega
theorem upTo_level {L : Nat} (hL : L ≤ 3) (n j : Nat) (hj : j < L ^ n) : (upTo L n)[off L n + j]? = some ((level L n).getD j []) := by
  have hj' : j < (level L n).length := by rw [length_level hL]; exact hj
  cases n with
  | zero => simp [upTo, off, hj']
  | succ n =>
    show (upTo L n ++ level L (n + 1))[_]? = _
    rw [List.getElem?_append_right (by rw [length_upTo hL]; omega), length_upTo hL]
    have : off L (n + 1) + j - off L (n + 1) = j := by omega
    rw [this]
    simp [hj']
theorem inTo_at {L : Nat} (hL : L ≤ 3) (n j c : Nat) (hj : j < L ^ n) : (inTo L n j c)[off L n + j]? = some ((level L n).getD j []) := by
  unfold inTo midTo
  have h1 : off L n + j < (upTo L n).length := by rw [length_upTo hL]; show _ < off L n + L ^ n; omega
  rw [List.append_assoc, List.getElem?_append_left h1]
  exact upTo_level hL n j hj
theorem off_le_of {L M n : Nat} (h : n ≤ M) : off L n ≤ off L M := off_mono L h
end Hw
namespace Hw
set_option linter.unusedVariables false
set_option linter.unusedSimpArgs false
/-! What is the same, by what is said. -/
structure Clo (L M : Nat) (said : List (Wd × Wd)) (R : Wd → Wd → Prop) : Prop where
  self : ∀ x, isWord L M x = true → R x x
  back : ∀ x y, R x y → R y x
  next : ∀ x y z, R x y → R y z → R x z
  said : ∀ p, p ∈ said → R p.1 p.2
  within : ∀ u x y v, R x y → isWord L M (u ++ x ++ v) = true → isWord L M (u ++ y ++ v) = true → R (u ++ x ++ v) (u ++ y ++ v)

def Eqv (L M : Nat) (said : List (Wd × Wd)) (x y : Wd) : Prop := ∀ R, Clo L M said R → R x y

theorem eqv_clo (L M : Nat) (said : List (Wd × Wd)) : Clo L M said (Eqv L M said) where
  self x h R c := c.self x h
  back x y h R c := c.back x y (h R c)
  next x y z h k R c := c.next x y z (h R c) (k R c)
  said p h R c := c.said p h
  within u x y v h a b R c := c.within u x y v (h R c) a b

theorem eqv_more {L M : Nat} {said said' : List (Wd × Wd)} (hs : ∀ p, p ∈ said → p ∈ said') {x y : Wd} (h : Eqv L M said x y) : Eqv L M said' x y :=
  fun R c => h R ⟨c.self, c.back, c.next, fun p hp => c.said p (hs p hp), c.within⟩

/-- the least word that is the same. -/
structure IsLeast (L M : Nat) (said : List (Wd × Wd)) (x m : Wd) : Prop where
  word : isWord L M m = true
  same : Eqv L M said x m
  least : ∀ y, isWord L M y = true → Eqv L M said x y → fold L m ≤ fold L y

theorem IsLeast.uniq {L M : Nat} (hL : L ≤ 3) {said : List (Wd × Wd)} {x m m' : Wd} (h : IsLeast L M said x m) (h' : IsLeast L M said x m') : m = m' :=
  fold_inj hL M m m' h.word h'.word (Nat.le_antisymm (h.least m' h'.word h'.same) (h'.least m h.word h.same))

theorem IsLeast.of_same {L M : Nat} {said : List (Wd × Wd)} {x y m : Wd} (h : IsLeast L M said x m) (hxy : Eqv L M said y x) : IsLeast L M said y m :=
  ⟨h.word, (eqv_clo L M said).next _ _ _ hxy h.same, fun z hz he => h.least z hz ((eqv_clo L M said).next _ _ _ ((eqv_clo L M said).back _ _ hxy) he)⟩

def wordAt (L M k : Nat) : Wd := (upTo L M).getD k []
def of (xs : List Nat) (k : Nat) : Nat := xs.getD k 0

theorem wordAt_eq {L M k : Nat} (h : k < (upTo L M).length) : wordAt L M k = (upTo L M)[k] := by simp [wordAt, h]
theorem wordAt_word {L M k : Nat} (hL : L ≤ 3) (h : k < (upTo L M).length) : isWord L M (wordAt L M k) = true := by rw [wordAt_eq h]; exact word_at hL M k h
theorem fold_wordAt {L M k : Nat} (hL : L ≤ 3) (h : k < (upTo L M).length) : fold L (wordAt L M k) = k := by rw [wordAt_eq h]; exact fold_at hL M k h
theorem wordAt_fold {L M : Nat} (hL : L ≤ 3) {s : Wd} (h : isWord L M s = true) : wordAt L M (fold L s) = s := by
  obtain ⟨h1, e⟩ := at_fold hL M s h
  rw [wordAt_eq h1, e]
theorem fold_lt_length {L M : Nat} (hL : L ≤ 3) {s : Wd} (h : isWord L M s = true) : fold L s < (upTo L M).length := (at_fold hL M s h).1

structure Good (L M : Nat) (said : List (Wd × Wd)) (xs : List Nat) : Prop where
  len : xs.length = (upTo L M).length
  le : ∀ k, k < xs.length → of xs k ≤ k
  idem : ∀ k, k < xs.length → of xs (of xs k) = of xs k
  sound : ∀ k, k < xs.length → Eqv L M said (wordAt L M k) (wordAt L M (of xs k))

def Coarser (xs ys : List Nat) : Prop := ∀ a b, a < xs.length → b < xs.length → of xs a = of xs b → of ys a = of ys b

def cnt (xs : List Nat) : Nat := (List.range xs.length).countP fun k => of xs k == k

theorem of_range {n k : Nat} (h : k < n) : of (List.range n) k = k := by simp [of, h]

theorem good_start (L M : Nat) (hL : L ≤ 3) (said : List (Wd × Wd)) : Good L M said (List.range (upTo L M).length) where
  len := by simp
  le k h := by rw [List.length_range] at h; rw [of_range h]; exact Nat.le_refl _
  idem k h := by rw [List.length_range] at h; rw [of_range h, of_range h]
  sound k h := by
    rw [List.length_range] at h; rw [of_range h]
    exact (eqv_clo L M said).self _ (wordAt_word hL h)

theorem of_map {xs : List Nat} {f : Nat → Nat} {k : Nat} (h : k < xs.length) : of (xs.map f) k = f (of xs k) := by
  simp [of, h]

theorem joinL_false {xs : List Nat} {i k : Nat} (h : (joinL xs i k).2 = false) : (joinL xs i k).1 = xs ∧ of xs i = of xs k := by
  unfold joinL at h ⊢
  split at h
  · next he => rw [if_pos he]; exact ⟨rfl, he⟩
  · cases h

theorem joinL_true {xs : List Nat} {i k : Nat} (h : (joinL xs i k).2 = true) :
    of xs i ≠ of xs k ∧ (joinL xs i k).1 = xs.map (swapTo (min (of xs i) (of xs k)) (max (of xs i) (of xs k))) := by
  unfold joinL at h ⊢
  split at h
  · cases h
  · next he => rw [if_neg he]; exact ⟨he, rfl⟩

theorem coarser_refl (xs : List Nat) : Coarser xs xs := fun _ _ _ _ h => h
theorem coarser_trans {xs ys zs : List Nat} (hl : xs.length = ys.length) (h : Coarser xs ys) (k : Coarser ys zs) : Coarser xs zs :=
  fun a b ha hb e => k a b (hl ▸ ha) (hl ▸ hb) (h a b ha hb e)
theorem coarser_join (xs : List Nat) (i k : Nat) : Coarser xs (joinL xs i k).1 := by
  cases hb : (joinL xs i k).2 with
  | false => rw [(joinL_false hb).1]; exact coarser_refl xs
  | true =>
    rw [(joinL_true hb).2]
    intro a b ha hb e
    rw [of_map ha, of_map hb, e]

theorem join_same {L M : Nat} {said : List (Wd × Wd)} {xs : List Nat} (g : Good L M said xs) {i k : Nat} (hi : i < xs.length) (hk : k < xs.length) : of (joinL xs i k).1 i = of (joinL xs i k).1 k := by
  cases hb : (joinL xs i k).2 with
  | false => rw [(joinL_false hb).1]; exact (joinL_false hb).2
  | true =>
    rw [(joinL_true hb).2, of_map hi, of_map hk]
    unfold swapTo
    split <;> split <;> omega

theorem good_join {L M : Nat} {said : List (Wd × Wd)} {xs : List Nat} (g : Good L M said xs) {i k : Nat} (hi : i < xs.length) (hk : k < xs.length)
    (he : Eqv L M said (wordAt L M i) (wordAt L M k)) : Good L M said (joinL xs i k).1 := by
  cases hb : (joinL xs i k).2 with
  | false => rw [(joinL_false hb).1]; exact g
  | true =>
    obtain ⟨hne, e⟩ := joinL_true hb
    have C := eqv_clo L M said
    have hxi : of xs i < xs.length := Nat.lt_of_le_of_lt (g.le i hi) hi
    have hxk : of xs k < xs.length := Nat.lt_of_le_of_lt (g.le k hk) hk
    have hEE : Eqv L M said (wordAt L M (of xs i)) (wordAt L M (of xs k)) :=
      C.next _ _ _ (C.back _ _ (g.sound i hi)) (C.next _ _ _ he (g.sound k hk))
    rw [e]
    generalize hx : min (of xs i) (of xs k) = x
    generalize hy : max (of xs i) (of xs k) = y
    have hxy : x < y := by omega
    have hyl : y < xs.length := by omega
    have hfx : of xs x = x := by
      rcases (show x = of xs i ∨ x = of xs k by omega) with h | h
      · rw [h]; exact g.idem i hi
      · rw [h]; exact g.idem k hk
    have hEx : Eqv L M said (wordAt L M y) (wordAt L M x) := by
      rcases (show (x = of xs i ∧ y = of xs k) ∨ (x = of xs k ∧ y = of xs i) by omega) with ⟨h1, h2⟩ | ⟨h1, h2⟩
      · rw [h1, h2]; exact C.back _ _ hEE
      · rw [h1, h2]; exact hEE
    constructor
    · rw [List.length_map]; exact g.len
    · intro j hj
      rw [List.length_map] at hj
      rw [of_map hj]
      have := g.le j hj
      unfold swapTo
      split <;> omega
    · intro j hj
      rw [List.length_map] at hj
      have hle := g.le j hj
      rw [of_map hj]
      unfold swapTo
      split
      · next h1 => rw [of_map (by omega), hfx]; rw [if_neg (by omega)]
      · next h1 => rw [of_map (by omega), g.idem j hj]; rw [if_neg h1]
    · intro j hj
      rw [List.length_map] at hj
      rw [of_map hj]
      unfold swapTo
      split
      · next h1 => exact C.next _ _ _ (g.sound j hj) (by rw [h1]; exact hEx)
      · exact g.sound j hj

theorem countP_lt {p q : Nat → Bool} : ∀ (l : List Nat), (∀ x, x ∈ l → q x = true → p x = true) → (∃ x, x ∈ l ∧ p x = true ∧ q x = false) → l.countP q < l.countP p
  | [], _, ⟨x, hx, _⟩ => by cases hx
  | a :: l, h, ⟨x, hx, hp, hq⟩ => by
    rw [List.countP_cons, List.countP_cons]
    have hle : l.countP q ≤ l.countP p := List.countP_mono_left fun y hy => h y (List.mem_cons_of_mem _ hy)
    rcases List.mem_cons.1 hx with rfl | hx'
    · rw [hp, hq]; simp; omega
    · have := countP_lt l (fun y hy => h y (List.mem_cons_of_mem _ hy)) ⟨x, hx', hp, hq⟩
      have ha := h a (List.mem_cons_self)
      cases hqa : q a with
      | true => rw [ha hqa]; simp; omega
      | false => simp; split <;> omega

theorem cnt_join {L M : Nat} {said : List (Wd × Wd)} {xs : List Nat} (g : Good L M said xs) {i k : Nat} (hi : i < xs.length) (hk : k < xs.length) (hb : (joinL xs i k).2 = true) :
    cnt (joinL xs i k).1 < cnt xs := by
  obtain ⟨hne, e⟩ := joinL_true hb
  have h1 := g.le i hi
  have h2 := g.le k hk
  have i1 := g.idem i hi
  have i2 := g.idem k hk
  rw [e]
  unfold cnt
  rw [List.length_map]
  generalize hx : min (of xs i) (of xs k) = x
  generalize hy : max (of xs i) (of xs k) = y
  apply countP_lt
  · intro j hj hq
    rw [List.mem_range] at hj
    rw [beq_iff_eq] at hq ⊢
    rw [of_map hj] at hq
    unfold swapTo at hq
    split at hq
    · next h => rcases (show x = of xs i ∨ x = of xs k by omega) with hh | hh
                · rw [← hq, hh]; exact i1
                · rw [← hq, hh]; exact i2
    · exact hq
  · refine ⟨y, by rw [List.mem_range]; omega, ?_, ?_⟩
    · rw [beq_iff_eq]
      rcases (show y = of xs i ∨ y = of xs k by omega) with hh | hh
      · rw [hh]; exact i1
      · rw [hh]; exact i2
    · rw [beq_eq_false_iff_ne, of_map (by omega)]
      have hfy : of xs y = y := by
        rcases (show y = of xs i ∨ y = of xs k by omega) with hh | hh
        · rw [hh]; exact i1
        · rw [hh]; exact i2
      rw [hfy]; unfold swapTo; rw [if_pos rfl]; omega

/-- a piece of the word i is replaced: that tells nothing new. -/
def PieceDone (L M : Nat) (xs : List Nat) (i a t : Nat) : Prop :=
  of xs i = of xs (fold L ((wordAt L M i).take a ++ wordAt L M (of xs (fold L (((wordAt L M i).take t).drop a))) ++ (wordAt L M i).drop t))

structure Done (L M : Nat) (said : List (Wd × Wd)) (xs : List Nat) : Prop where
  good : Good L M said xs
  said : ∀ p, p ∈ said → of xs (fold L p.1) = of xs (fold L p.2)
  piece : ∀ i, i < xs.length → ∀ a t, a ≤ t → t ≤ (wordAt L M i).length → PieceDone L M xs i a t

theorem isWord_piece {L M : Nat} {u x v : Wd} (h : isWord L M (u ++ x ++ v) = true) : isWord L M x = true := by
  rw [isWord_iff, all_append3, Bool.and_eq_true, Bool.and_eq_true] at h
  rw [isWord_iff]
  refine ⟨h.1.1.2, ?_⟩
  have := h.2; simp at this; omega

theorem Done.iff {L M : Nat} (hL : L ≤ 3) {said : List (Wd × Wd)} {xs : List Nat} (d : Done L M said xs) (hsaid : ∀ p, p ∈ said → isWord L M p.1 = true ∧ isWord L M p.2 = true)
    {x y : Wd} (hx : isWord L M x = true) (hy : isWord L M y = true) : Eqv L M said x y ↔ of xs (fold L x) = of xs (fold L y) := by
  have g := d.good
  have C := eqv_clo L M said
  constructor
  · intro h
    have key : ∀ u x v, isWord L M (u ++ x ++ v) = true → of xs (fold L (u ++ x ++ v)) = of xs (fold L (u ++ wordAt L M (of xs (fold L x)) ++ v)) := by
      intro u x v hw
      have hl := fold_lt_length hL hw
      have := d.piece (fold L (u ++ x ++ v)) (by rw [g.len]; exact hl) u.length (u.length + x.length) (by omega) (by rw [wordAt_fold hL hw]; simp)
      unfold PieceDone at this
      rw [wordAt_fold hL hw] at this
      have e1 : (u ++ x ++ v).take u.length = u := by simp
      have e2 : ((u ++ x ++ v).take (u.length + x.length)).drop u.length = x := by
        rw [List.take_append_of_le_length (by simp), List.take_of_length_le (by simp)]; simp
      have e3 : (u ++ x ++ v).drop (u.length + x.length) = v := by
        rw [show u.length + x.length = (u ++ x).length by simp, List.drop_left]
      rw [e1, e2, e3] at this
      exact this
    have hR := h (fun a b => isWord L M a = true ∧ isWord L M b = true ∧ of xs (fold L a) = of xs (fold L b)) ?_
    · exact hR.2.2
    · constructor
      · exact fun x hx => ⟨hx, hx, rfl⟩
      · rintro x y ⟨a, b, c⟩; exact ⟨b, a, c.symm⟩
      · rintro x y z ⟨a, b, c⟩ ⟨a', b', c'⟩; exact ⟨a, b', c.trans c'⟩
      · intro p hp; exact ⟨(hsaid p hp).1, (hsaid p hp).2, d.said p hp⟩
      · rintro u x y v ⟨a, b, c⟩ h1 h2
        exact ⟨h1, h2, by rw [key u x v h1, key u y v h2, c]⟩
  · intro h
    have hxl := fold_lt_length hL hx
    have hyl := fold_lt_length hL hy
    have s1 := g.sound (fold L x) (by rw [g.len]; exact hxl)
    have s2 := g.sound (fold L y) (by rw [g.len]; exact hyl)
    rw [wordAt_fold hL hx] at s1
    rw [wordAt_fold hL hy, ← h] at s2
    exact C.next _ _ _ s1 (C.back _ _ s2)

theorem Done.least {L M : Nat} (hL : L ≤ 3) {said : List (Wd × Wd)} {xs : List Nat} (d : Done L M said xs) (hsaid : ∀ p, p ∈ said → isWord L M p.1 = true ∧ isWord L M p.2 = true)
    {x : Wd} (hx : isWord L M x = true) : IsLeast L M said x (wordAt L M (of xs (fold L x))) := by
  have g := d.good
  have hxl : fold L x < xs.length := by rw [g.len]; exact fold_lt_length hL hx
  have hle := g.le (fold L x) hxl
  have hl2 : of xs (fold L x) < (upTo L M).length := by rw [← g.len]; omega
  refine ⟨wordAt_word hL hl2, ?_, ?_⟩
  · have := g.sound (fold L x) hxl
    rw [wordAt_fold hL hx] at this
    exact this
  · intro y hy he
    rw [fold_wordAt hL hl2, (d.iff hL hsaid hx hy).1 he]
    exact g.le _ (by rw [g.len]; exact fold_lt_length hL hy)

theorem piece_word {L M : Nat} (hL : L ≤ 3) {said : List (Wd × Wd)} {xs : List Nat} (g : Good L M said xs) {w : Wd} (hw : isWord L M w = true) (a t : Nat) (hat : a ≤ t) (ht : t ≤ w.length) :
    isWord L M ((w.take t).drop a) = true ∧ fold L ((w.take t).drop a) < xs.length ∧ of xs (fold L ((w.take t).drop a)) < xs.length ∧
    isWord L M (w.take a ++ wordAt L M (of xs (fold L ((w.take t).drop a))) ++ w.drop t) = true ∧
    Eqv L M said w (w.take a ++ wordAt L M (of xs (fold L ((w.take t).drop a))) ++ w.drop t) := by
  have C := eqv_clo L M said
  have e : w.take a ++ (w.take t).drop a ++ w.drop t = w := by
    have h1 : w.take a = (w.take t).take a := by rw [List.take_take]; congr 1; omega
    rw [h1, List.take_append_drop, List.take_append_drop]
  have hp : isWord L M ((w.take t).drop a) = true := isWord_piece (u := w.take a) (v := w.drop t) (by rw [e]; exact hw)
  have hl : fold L ((w.take t).drop a) < xs.length := by rw [g.len]; exact fold_lt_length hL hp
  have hle := g.le _ hl
  have hl2 : of xs (fold L ((w.take t).drop a)) < (upTo L M).length := by rw [← g.len]; omega
  have hw2 := wordAt_word hL hl2
  have hs := g.sound _ hl
  rw [wordAt_fold hL hp] at hs
  have hlen : (wordAt L M (of xs (fold L ((w.take t).drop a)))).length ≤ ((w.take t).drop a).length := by
    apply length_le_of_fold hL ((isWord_iff _ _ _).1 hw2).1 ((isWord_iff _ _ _).1 hp).1
    rw [fold_wordAt hL hl2]; exact hle
  have hword : isWord L M (w.take a ++ wordAt L M (of xs (fold L ((w.take t).drop a))) ++ w.drop t) = true := by
    have hww := hw
    rw [← e, isWord_iff, all_append3, Bool.and_eq_true, Bool.and_eq_true] at hww
    rw [isWord_iff, all_append3, hww.1.1.1, hww.1.2, ((isWord_iff _ _ _).1 hw2).1]
    refine ⟨rfl, ?_⟩
    have h3 := hww.2
    rw [List.length_append, List.length_append] at h3 ⊢
    omega
  refine ⟨hp, hl, by omega, hword, ?_⟩
  have := C.within (w.take a) _ _ (w.drop t) hs (by rw [e]; exact hw) hword
  rw [e] at this
  exact this

theorem piece_same {L M : Nat} (hL : L ≤ 3) {xs : List Nat} {i a t : Nat} {S : Wd} (hS : wordAt L M i = S) (hi : i < (upTo L M).length) (hat : a ≤ t)
    (hk : of xs (fold L ((S.take t).drop a)) = fold L ((S.take t).drop a)) : PieceDone L M xs i a t := by
  have hw : isWord L M S = true := by rw [← hS]; exact wordAt_word hL hi
  have hf : fold L S = i := by rw [← hS]; exact fold_wordAt hL hi
  have e : S.take a ++ (S.take t).drop a ++ S.drop t = S := by
    have h1 : S.take a = (S.take t).take a := by rw [List.take_take]; congr 1; omega
    rw [h1, List.take_append_drop, List.take_append_drop]
  have hp : isWord L M ((S.take t).drop a) = true := isWord_piece (u := S.take a) (v := S.drop t) (by rw [e]; exact hw)
  unfold PieceDone
  rw [hS, hk, wordAt_fold hL hp, e, hf]
end Hw
