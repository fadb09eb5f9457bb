import Derived.Test.YtbpfcnhihchemaaPure
namespace Hw
set_option linter.unusedVariables false
set_option linter.unusedSimpArgs false
/-! All words there are, the least first; the place of a word. -/
def letters (L : Nat) : List UInt8 := (List.range L).map fun d => UInt8.ofNat (97 + d)
def nextLevel (L : Nat) (l : List Wd) : List Wd := l.flatMap fun w => (letters L).map fun c => w ++ [c]
def level (L : Nat) : Nat → List Wd
  | 0 => [[]]
  | n + 1 => nextLevel L (level L n)
def upTo (L : Nat) : Nat → List Wd
  | 0 => level L 0
  | n + 1 => upTo L n ++ level L (n + 1)
def off (L : Nat) : Nat → Nat
  | 0 => 0
  | n + 1 => off L n + L ^ n

theorem off_succ (L n : Nat) : off L (n + 1) = off L n * L + 1 := by
  induction n with
  | zero => simp [off]
  | succ n ih =>
    show off L (n + 1) + L ^ (n + 1) = off L (n + 1) * L + 1
    rw [ih, Nat.pow_succ, Nat.add_mul (off L n * L)]
    have : off L (n + 1) = off L n + L ^ n := rfl
    have h2 : off L (n + 1) * L = off L n * L + L ^ n * L := by rw [this, Nat.add_mul]
    rw [ih, Nat.add_mul] at h2
    omega

theorem toNat_letter {L d : Nat} (hL : L ≤ 3) (hd : d < L) : (UInt8.ofNat (97 + d)).toNat = 97 + d := by
  simp [UInt8.toNat_ofNat']; omega

theorem range'_flat (L : Nat) : ∀ (c o : Nat), (List.range' o c).flatMap (fun m => List.range' (m * L + 1) L) = List.range' (o * L + 1) (c * L) := by
  intro c
  induction c with
  | zero => intro o; simp
  | succ c ih =>
    intro o
    rw [List.range'_succ, List.flatMap_cons, ih (o + 1)]
    have e : (c + 1) * L = L + c * L := by rw [Nat.add_mul]; omega
    have e2 : (o + 1) * L + 1 = o * L + 1 + L := by rw [Nat.add_mul]; omega
    rw [e, e2]
    have := List.range'_append_1 (s := o * L + 1) (m := L) (n := c * L)
    rw [← this]

theorem map_range_range' (a n : Nat) : (List.range n).map (fun d => a + d) = List.range' a n := by
  rw [List.range'_eq_map_range]

theorem fold_letters {L : Nat} (hL : L ≤ 3) (w : Wd) : ((letters L).map fun c => fold L (w ++ [c])) = List.range' (fold L w * L + 1) L := by
  unfold letters
  rw [List.map_map, ← map_range_range']
  apply List.map_congr_left
  intro d hd
  rw [List.mem_range] at hd
  show fold L (w ++ [UInt8.ofNat (97 + d)]) = _
  rw [fold_snoc, toNat_letter hL hd]
  omega

theorem fold_nextLevel {L : Nat} (hL : L ≤ 3) (l : List Wd) : (nextLevel L l).map (fold L) = (l.map (fold L)).flatMap fun m => List.range' (m * L + 1) L := by
  induction l with
  | nil => rfl
  | cons w l ih =>
    show ((letters L).map (fun c => w ++ [c]) ++ nextLevel L l).map (fold L) = _
    rw [List.map_append, ih, List.map_cons, List.flatMap_cons, List.map_map]
    congr 1
    exact fold_letters hL w

theorem fold_level {L : Nat} (hL : L ≤ 3) (n : Nat) : (level L n).map (fold L) = List.range' (off L n) (L ^ n) := by
  induction n with
  | zero => simp [level, off, fold]
  | succ n ih =>
    show (nextLevel L (level L n)).map (fold L) = _
    rw [fold_nextLevel hL, ih, range'_flat, off_succ, Nat.pow_succ]

theorem fold_upTo {L : Nat} (hL : L ≤ 3) (n : Nat) : (upTo L n).map (fold L) = List.range' 0 (off L (n + 1)) := by
  induction n with
  | zero => simp [upTo, level, fold, off]
  | succ n ih =>
    show (upTo L n ++ level L (n + 1)).map (fold L) = _
    rw [List.map_append, ih, fold_level hL]
    have : off L (n + 1 + 1) = off L (n + 1) + L ^ (n + 1) := rfl
    rw [this]
    have := List.range'_append_1 (s := 0) (m := off L (n + 1)) (n := L ^ (n + 1))
    rw [Nat.zero_add] at this
    exact this

theorem length_level {L : Nat} (hL : L ≤ 3) (n : Nat) : (level L n).length = L ^ n := by
  have := congrArg List.length (fold_level hL n)
  simpa using this
theorem length_upTo {L : Nat} (hL : L ≤ 3) (n : Nat) : (upTo L n).length = off L (n + 1) := by
  have := congrArg List.length (fold_upTo hL n)
  simpa using this

theorem fold_at {L : Nat} (hL : L ≤ 3) (M k : Nat) (h : k < (upTo L M).length) : fold L ((upTo L M)[k]) = k := by
  have e := fold_upTo hL M
  have h1 : ((upTo L M).map (fold L))[k]? = (List.range' 0 (off L (M + 1)))[k]? := by rw [e]
  rw [List.getElem?_map, List.getElem?_eq_getElem h, List.getElem?_range' (by rw [← length_upTo hL]; exact h)] at h1
  simpa using h1

theorem mem_letters {L : Nat} (hL : L ≤ 3) (c : UInt8) : c ∈ letters L ↔ okc L c = true := by
  unfold letters
  rw [List.mem_map]
  constructor
  · rintro ⟨d, hd, rfl⟩
    rw [List.mem_range] at hd
    have := toNat_letter hL hd
    simp [okc]; omega
  · intro h
    simp [okc] at h
    refine ⟨c.toNat - 97, by rw [List.mem_range]; omega, ?_⟩
    have : 97 + (c.toNat - 97) = c.toNat := by omega
    rw [this, UInt8.ofNat_toNat]

theorem mem_level {L : Nat} (hL : L ≤ 3) : ∀ (n : Nat) (s : Wd), s ∈ level L n ↔ s.length = n ∧ s.all (okc L) = true := by
  intro n
  induction n with
  | zero =>
    intro s
    simp only [level, List.mem_singleton]
    constructor
    · rintro rfl; simp
    · rintro ⟨h, _⟩; exact List.length_eq_zero_iff.1 h
  | succ n ih =>
    intro s
    show s ∈ (level L n).flatMap _ ↔ _
    rw [List.mem_flatMap]
    constructor
    · rintro ⟨w, hw, hs⟩
      rw [List.mem_map] at hs
      obtain ⟨c, hc, rfl⟩ := hs
      obtain ⟨h1, h2⟩ := (ih w).1 hw
      rw [List.all_append, h2]
      exact ⟨by simp [h1], by simp [(mem_letters hL c).1 hc]⟩
    · rintro ⟨h1, h2⟩
      have hne : s ≠ [] := by intro e; rw [e] at h1; simp at h1
      have e := List.dropLast_concat_getLast hne
      refine ⟨s.dropLast, (ih _).2 ⟨by rw [List.length_dropLast]; omega, ?_⟩, ?_⟩
      · rw [List.all_eq_true] at h2 ⊢
        exact fun x hx => h2 x (List.dropLast_subset s hx)
      · rw [List.mem_map]
        refine ⟨s.getLast hne, (mem_letters hL _).2 ?_, e⟩
        rw [List.all_eq_true] at h2
        exact h2 _ (List.getLast_mem hne)

theorem mem_upTo {L : Nat} (hL : L ≤ 3) (M : Nat) (s : Wd) : s ∈ upTo L M ↔ isWord L M s = true := by
  unfold isWord
  rw [Bool.and_eq_true, decide_eq_true_eq]
  induction M with
  | zero =>
    show s ∈ level L 0 ↔ _
    rw [mem_level hL]
    constructor
    · rintro ⟨h1, h2⟩; exact ⟨h2, by omega⟩
    · rintro ⟨h1, h2⟩; exact ⟨by omega, h1⟩
  | succ M ih =>
    show s ∈ upTo L M ++ level L (M + 1) ↔ _
    rw [List.mem_append, ih, mem_level hL]
    constructor
    · rintro (⟨h1, h2⟩ | ⟨h1, h2⟩)
      · exact ⟨h1, by omega⟩
      · exact ⟨h2, by omega⟩
    · rintro ⟨h1, h2⟩
      by_cases h : s.length ≤ M
      · exact Or.inl ⟨h1, h⟩
      · exact Or.inr ⟨by omega, h1⟩

theorem at_fold {L : Nat} (hL : L ≤ 3) (M : Nat) (s : Wd) (h : isWord L M s = true) : ∃ hk : fold L s < (upTo L M).length, (upTo L M)[fold L s] = s := by
  obtain ⟨k, hk, e⟩ := List.getElem_of_mem ((mem_upTo hL M s).2 h)
  have := fold_at hL M k hk
  rw [e] at this
  subst this
  exact ⟨hk, e⟩

theorem word_at {L : Nat} (hL : L ≤ 3) (M k : Nat) (h : k < (upTo L M).length) : isWord L M ((upTo L M)[k]) = true :=
  (mem_upTo hL M _).1 (List.getElem_mem h)

theorem fold_inj {L : Nat} (hL : L ≤ 3) (M : Nat) (s t : Wd) (hs : isWord L M s = true) (ht : isWord L M t = true) (h : fold L s = fold L t) : s = t := by
  obtain ⟨h1, e1⟩ := at_fold hL M s hs
  obtain ⟨h2, e2⟩ := at_fold hL M t ht
  have : (upTo L M)[fold L s] = (upTo L M)[fold L t] := by simp only [h]
  rw [e1, e2] at this
  exact this

theorem foldl_eq (L : Nat) (s : Wd) : ∀ a : Nat, s.foldl (fun n c => n * L + (c.toNat - 97) + 1) a = a * L ^ s.length + fold L s := by
  induction s with
  | nil => intro a; simp [fold]
  | cons c s ih =>
    intro a
    unfold fold
    rw [List.foldl_cons, List.foldl_cons, ih, ih (0 * L + (c.toNat - 97) + 1), List.length_cons, Nat.pow_succ]
    have e1 : (a * L + (c.toNat - 97) + 1) * L ^ s.length = a * (L ^ s.length * L) + ((c.toNat - 97) + 1) * L ^ s.length := by
      rw [Nat.add_assoc, Nat.add_mul, Nat.mul_assoc, Nat.mul_comm L]
    have e2 : (0 * L + (c.toNat - 97) + 1) = (c.toNat - 97) + 1 := by omega
    rw [e1, e2]; omega

theorem fold_append (L : Nat) (s t : Wd) : fold L (s ++ t) = fold L s * L ^ t.length + fold L t := by
  rw [← foldl_eq]; simp [fold, List.foldl_append]

theorem fold_range {L : Nat} (hL : L ≤ 3) (s : Wd) (h : s.all (okc L) = true) : off L s.length ≤ fold L s ∧ fold L s < off L (s.length + 1) := by
  have hm := (mem_level hL s.length s).2 ⟨rfl, h⟩
  have : fold L s ∈ (level L s.length).map (fold L) := List.mem_map_of_mem hm
  rw [fold_level hL, List.mem_range'_1] at this
  exact ⟨this.1, this.2⟩

theorem off_mono (L : Nat) {n m : Nat} (h : n ≤ m) : off L n ≤ off L m := by
  induction h with
  | refl => exact Nat.le_refl _
  | step h ih => exact Nat.le_trans ih (Nat.le_add_right _ _)

theorem fold_lt_of_length {L : Nat} (hL : L ≤ 3) {s t : Wd} (hs : s.all (okc L) = true) (ht : t.all (okc L) = true) (h : s.length < t.length) : fold L s < fold L t :=
  Nat.lt_of_lt_of_le (fold_range hL s hs).2 (Nat.le_trans (off_mono L h) (fold_range hL t ht).1)

theorem length_le_of_fold {L : Nat} (hL : L ≤ 3) {s t : Wd} (hs : s.all (okc L) = true) (ht : t.all (okc L) = true) (h : fold L s ≤ fold L t) : s.length ≤ t.length :=
  Nat.le_of_not_lt fun hlt => by have := fold_lt_of_length hL ht hs hlt; omega

theorem isWord_iff (L M : Nat) (s : Wd) : isWord L M s = true ↔ s.all (okc L) = true ∧ s.length ≤ M := by
  unfold isWord; rw [Bool.and_eq_true, decide_eq_true_eq]

theorem index_eq {L M : Nat} {s : Wd} (h : isWord L M s = true) : index L s = fold L s := by
  unfold index
  split
  · next h1 =>
    subst h1
    have hs := ((isWord_iff 1 M s).1 h).1
    clear h
    have : ∀ (s : Wd) (a : Nat), s.all (okc 1) = true → s.foldl (fun n c => n * 1 + (c.toNat - 97) + 1) a = a + s.length := by
      intro s
      induction s with
      | nil => intro a _; rfl
      | cons c s ih =>
        intro a h
        rw [List.all_cons, Bool.and_eq_true] at h
        rw [List.foldl_cons, ih _ h.2, List.length_cons]
        have := h.1; simp [okc] at this; omega
    have := this s 0 hs
    rw [Nat.zero_add] at this
    exact this.symm
  · rfl

theorem all_append3 (p : UInt8 → Bool) (u x v : Wd) : (u ++ x ++ v).all p = (u.all p && x.all p && v.all p) := by rw [List.all_append, List.all_append]

/-- less within letters. -/
theorem fold_within {L : Nat} (hL : L ≤ 3) {x y : Wd} (u v : Wd) (hu : u.all (okc L) = true) (hv : v.all (okc L) = true) (hx : x.all (okc L) = true) (hy : y.all (okc L) = true) (hL1 : 1 ≤ L)
    (h : fold L x < fold L y) : fold L (u ++ x ++ v) < fold L (u ++ y ++ v) := by
  have hl := length_le_of_fold hL hx hy (Nat.le_of_lt h)
  by_cases he : x.length = y.length
  · rw [fold_append, fold_append, fold_append, fold_append L u y, he]
    have hp : 0 < L ^ v.length := Nat.pow_pos (by omega)
    have : (fold L u * L ^ y.length + fold L x) * L ^ v.length < (fold L u * L ^ y.length + fold L y) * L ^ v.length :=
      Nat.mul_lt_mul_of_pos_right (by omega) hp
    omega
  · apply fold_lt_of_length hL
    · rw [all_append3, hu, hx, hv]; rfl
    · rw [all_append3, hu, hy, hv]; rfl
    · simp; omega

/-! how New makes the words -/
def midTo (L n j : Nat) : List Wd := upTo L n ++ nextLevel L ((level L n).take j)
def inTo (L n j c : Nat) : List Wd := midTo L n j ++ ((letters L).take c).map fun x => (level L n).getD j [] ++ [x]

theorem midTo_zero (L n : Nat) : midTo L n 0 = upTo L n := by simp [midTo, nextLevel]
theorem midTo_all {L : Nat} (hL : L ≤ 3) (n j : Nat) (h : L ^ n ≤ j) : midTo L n j = upTo L (n + 1) := by
  unfold midTo
  rw [List.take_of_length_le (by rw [length_level hL]; exact h)]
  rfl
theorem inTo_zero (L n j : Nat) : inTo L n j 0 = midTo L n j := by simp [inTo]
theorem inTo_all {L : Nat} (hL : L ≤ 3) (n j : Nat) (hj : j < L ^ n) (c : Nat) (hc : L ≤ c) : inTo L n j c = midTo L n (j + 1) := by
  have hj' : j < (level L n).length := by rw [length_level hL]; exact hj
  unfold inTo midTo
  rw [show (letters L).take c = letters L from List.take_of_length_le (by simp [letters]; omega), List.take_succ_eq_append_getElem hj', List.append_assoc]
  congr 1
  unfold nextLevel
  rw [List.flatMap_append]
  simp [hj']
theorem inTo_succ {L : Nat} (n j c : Nat) (hc : c < L) : inTo L n j (c + 1) = inTo L n j c ++ [(level L n).getD j [] ++ [UInt8.ofNat (97 + c)]] := by
  have h : c < (letters L).length := by simp [letters]; exact hc
  unfold inTo
  rw [List.take_succ_eq_append_getElem h, List.map_append, ← List.append_assoc]
  simp [letters]

theorem midTo_prefix {L : Nat} (hL : L ≤ 3) (n j : Nat) : ∃ r, upTo L (n + 1) = midTo L n j ++ r := by
  refine ⟨nextLevel L ((level L n).drop j), ?_⟩
  unfold midTo nextLevel
  rw [List.append_assoc, ← List.flatMap_append, List.take_append_drop]
  rfl
theorem inTo_le {L : Nat} (hL : L ≤ 3) (n j c : Nat) (hj : j < L ^ n) : (inTo L n j c).length ≤ (upTo L (n + 1)).length := by
  have h1 : (inTo L n j c).length ≤ (inTo L n j (max c L)).length := by
    unfold inTo
    rw [List.length_append, List.length_append, List.length_map, List.length_map, List.length_take, List.length_take]
    omega
  rw [inTo_all hL n j hj _ (Nat.le_max_right c L)] at h1
  obtain ⟨r, hr⟩ := midTo_prefix hL n (j + 1)
  have := congrArg List.length hr
  rw [List.length_append] at this
  omega
theorem upTo_level {L : Nat} (hL : L ≤ 3) (n j : Nat) (hj : j < L ^ n) : (upTo L n)[off L n + j]? = some ((level L n).getD j []) := by
  have hj' : j < (level L n).length := by rw [length_level hL]; exact hj
  cases n with
  | zero => simp [upTo, off, hj']
  | succ n =>
    show (upTo L n ++ level L (n + 1))[_]? = _
    rw [List.getElem?_append_right (by rw [length_upTo hL]; omega), length_upTo hL]
    have : off L (n + 1) + j - off L (n + 1) = j := by omega
    rw [this]
    simp [hj']
theorem inTo_at {L : Nat} (hL : L ≤ 3) (n j c : Nat) (hj : j < L ^ n) : (inTo L n j c)[off L n + j]? = some ((level L n).getD j []) := by
  unfold inTo midTo
  have h1 : off L n + j < (upTo L n).length := by rw [length_upTo hL]; show _ < off L n + L ^ n; omega
  rw [List.append_assoc, List.getElem?_append_left h1]
  exact upTo_level hL n j hj
theorem off_le_of {L M n : Nat} (h : n ≤ M) : off L n ≤ off L M := off_mono L h
end Hw
