namespace Hw
set_option linter.unusedVariables false
set_option linter.unusedSimpArgs false
abbrev Wd := List UInt8

def okc (L : Nat) (c : UInt8) : Bool := decide (97 ≤ c.toNat) && decide (c.toNat < 97 + L)

def isWord (L M : Nat) (s : Wd) : Bool := s.all (okc L) && decide (s.length ≤ M)

def fold (L : Nat) (s : Wd) : Nat := s.foldl (fun n c => n * L + (c.toNat - 97) + 1) 0

def index (L : Nat) (s : Wd) : Nat := if L = 1 then s.length else fold L s

theorem take_snoc (s : Wd) (k : Nat) (h : k < s.length) : s.take (k + 1) = s.take k ++ [s[k]] := by
  rw [List.take_succ_eq_append_getElem h]

theorem fold_snoc (L : Nat) (s : Wd) (c : UInt8) : fold L (s ++ [c]) = fold L s * L + (c.toNat - 97) + 1 := by
  simp [fold, List.foldl_append]

theorem all_take_succ (p : UInt8 → Bool) (s : Wd) (k : Nat) (h : k < s.length) : (s.take (k + 1)).all p = ((s.take k).all p && p s[k]) := by
  rw [take_snoc s k h, List.all_append]; simp

theorem not_all_of (p : UInt8 → Bool) (s : Wd) (k : Nat) (h : k < s.length) (hp : p s[k] = false) : s.all p = false := by
  rw [List.all_eq_false]
  exact ⟨s[k], List.getElem_mem h, by simp [hp]⟩

theorem fold_lt_from (L : Nat) (s : Wd) : ∀ a : Nat, s.all (okc L) = true → s.foldl (fun n c => n * L + (c.toNat - 97) + 1) a + 1 ≤ (a + 1) * (L + 1) ^ s.length := by
  induction s with
  | nil => intro a _; simp
  | cons c s ih =>
    intro a h
    rw [List.all_cons, Bool.and_eq_true] at h
    have hc : c.toNat < 97 + L := by have := h.1; simp [okc] at this; omega
    have hc' : 97 ≤ c.toNat := by have := h.1; simp [okc] at this; omega
    have h1 := ih (a * L + (c.toNat - 97) + 1) h.2
    rw [List.foldl_cons, List.length_cons, Nat.pow_succ, Nat.mul_comm ((L + 1) ^ s.length), ← Nat.mul_assoc]
    refine Nat.le_trans h1 (Nat.mul_le_mul_right _ ?_)
    have h2 : (a + 1) * (L + 1) = a * L + a + L + 1 := by rw [Nat.add_mul, Nat.mul_add]; omega
    omega

theorem fold_lt (L : Nat) (s : Wd) (h : s.all (okc L) = true) : fold L s + 1 ≤ (L + 1) ^ s.length := by
  have := fold_lt_from L s 0 h
  simpa [fold] using this

/-! what is the same: a list of places -/
def swapTo (x y v : Nat) : Nat := if v = y then x else v

def joinTo (xs : List Nat) (x y j : Nat) : List Nat := (xs.take j).map (swapTo x y) ++ xs.drop j

def joinL (xs : List Nat) (i k : Nat) : List Nat × Bool :=
  if xs.getD i 0 = xs.getD k 0 then (xs, false)
  else (xs.map (swapTo (min (xs.getD i 0) (xs.getD k 0)) (max (xs.getD i 0) (xs.getD k 0))), true)

theorem joinTo_zero (xs : List Nat) (x y : Nat) : joinTo xs x y 0 = xs := by simp [joinTo]
theorem joinTo_all (xs : List Nat) (x y j : Nat) (h : xs.length ≤ j) : joinTo xs x y j = xs.map (swapTo x y) := by
  simp [joinTo, List.take_of_length_le h, List.drop_eq_nil_of_le h]
theorem length_joinTo (xs : List Nat) (x y j : Nat) : (joinTo xs x y j).length = xs.length := by
  simp [joinTo, List.length_take, List.length_drop]; omega
theorem joinTo_at (xs : List Nat) (x y j : Nat) (h : j < xs.length) (h' : j < (joinTo xs x y j).length) : (joinTo xs x y j)[j] = xs[j] := by
  have hl : ((xs.take j).map (swapTo x y)).length = j := by simp; omega
  have e : (joinTo xs x y j)[j]? = some xs[j] := by
    unfold joinTo
    rw [List.getElem?_append_right (by omega), hl, Nat.sub_self, List.getElem?_drop]
    simp [h]
  rw [List.getElem?_eq_getElem h'] at e
  exact Option.some.inj e
theorem joinTo_succ (xs : List Nat) (x y j : Nat) (h : j < xs.length) : joinTo xs x y (j + 1) = (joinTo xs x y j).set j (swapTo x y xs[j]) := by
  have hl : ((xs.take j).map (swapTo x y)).length = j := by simp; omega
  unfold joinTo
  rw [List.set_append_right _ _ (by omega), hl, Nat.sub_self, List.drop_eq_getElem_cons h, List.set_cons_zero, List.take_succ_eq_append_getElem h, List.map_append]
  simp only [List.map_cons, List.map_nil, List.append_assoc, List.cons_append, List.nil_append]
theorem joinTo_succ_same (xs : List Nat) (x y j : Nat) (h : j < xs.length) (hv : ¬ xs[j] = y) : joinTo xs x y (j + 1) = joinTo xs x y j := by
  unfold joinTo
  rw [List.take_succ_eq_append_getElem h, List.drop_eq_getElem_cons h, List.map_append]
  simp only [List.map_cons, List.map_nil, List.append_assoc, List.cons_append, List.nil_append, swapTo, if_neg hv]
theorem length_joinL (xs : List Nat) (i k : Nat) : (joinL xs i k).1.length = xs.length := by
  unfold joinL; split <;> simp
end Hw
