import Derived.Test.YtfiebibpgbadlaaGreatKb
namespace Hw
set_option linter.unusedVariables false
set_option linter.unusedSimpArgs false
/-- A line. -/
structure Ln where
  how : Int
  left : Wd
  right : Wd
  said : Int
  a : Int
  b : Int
  ahead : Wd
  behind : Wd
/-- A line is drawn as it says, of what is said, and of lines ahead. -/
inductive Drawn (said : List Rl) (ls : List Ln) (i : Nat) : Ln → Prop
  | self (x : Wd) : Drawn said ls i ⟨0, x, x, 0, 0, 0, [], []⟩
  | said (k : Nat) (x y : Wd) (h : said[k]? = some (x, y)) : Drawn said ls i ⟨1, x, y, (k : Int), 0, 0, [], []⟩
  | back (j : Nat) (m : Ln) (hj : j < i) (hm : ls[j]? = some m) : Drawn said ls i ⟨2, m.right, m.left, 0, (j : Int), 0, [], []⟩
  | thn (j k : Nat) (m o : Ln) (hj : j < i) (hk : k < i) (hm : ls[j]? = some m) (ho : ls[k]? = some o) (h : m.right = o.left) : Drawn said ls i ⟨3, m.left, o.right, 0, (j : Int), (k : Int), [], []⟩
  | within (j : Nat) (m : Ln) (u v : Wd) (hj : j < i) (hm : ls[j]? = some m) : Drawn said ls i ⟨4, u ++ m.left ++ v, u ++ m.right ++ v, 0, (j : Int), 0, u, v⟩
/-- Lines. -/
structure Lines (L M : Nat) (said : List Rl) (ls : List Ln) : Prop where
  words : ∀ n, n ∈ ls → isWord L M n.left = true ∧ isWord L M n.right = true
  drawn : ∀ i n, ls[i]? = some n → Drawn said ls i n
  few : ls.length ≤ 100000

/-- Lines that are drawn, however many. -/
structure Sheet (L M : Nat) (said : List Rl) (ls : List Ln) : Prop where
  words : ∀ n, n ∈ ls → isWord L M n.left = true ∧ isWord L M n.right = true
  drawn : ∀ i n, ls[i]? = some n → Drawn said ls i n

def Says (ls : List Ln) (c : Nat) (x y : Wd) : Prop := ∃ n, ls[c]? = some n ∧ n.left = x ∧ n.right = y
/-- at most m lines more. -/
def Ext (ls ls' : List Ln) (m : Nat) : Prop := ∃ new, ls' = ls ++ new ∧ new.length ≤ m

theorem Ext.refl (ls : List Ln) (m : Nat) : Ext ls ls m := ⟨[], by simp, by simp⟩
theorem Ext.one (ls : List Ln) (n : Ln) : Ext ls (ls ++ [n]) 1 := ⟨[n], rfl, by simp⟩
theorem Ext.trans {a b c : List Ln} {m n : Nat} (h : Ext a b m) (k : Ext b c n) : Ext a c (m + n) := by
  obtain ⟨x, rfl, hx⟩ := h
  obtain ⟨y, rfl, hy⟩ := k
  exact ⟨x ++ y, by simp, by simp; omega⟩
theorem Ext.mono {a b : List Ln} {m n : Nat} (h : Ext a b m) (hn : m ≤ n) : Ext a b n := by
  obtain ⟨x, rfl, hx⟩ := h
  exact ⟨x, rfl, by omega⟩
theorem Ext.get {a b : List Ln} {m : Nat} (h : Ext a b m) {i : Nat} {n : Ln} (hi : a[i]? = some n) : b[i]? = some n := by
  obtain ⟨x, rfl, hx⟩ := h
  rw [List.getElem?_append_left (List.getElem?_eq_some_iff.1 hi).1]; exact hi
theorem Ext.says {a b : List Ln} {m : Nat} (h : Ext a b m) {c : Nat} {x y : Wd} (hs : Says a c x y) : Says b c x y := by
  obtain ⟨n, h1, h2⟩ := hs
  exact ⟨n, h.get h1, h2⟩
theorem Ext.len {a b : List Ln} {m : Nat} (h : Ext a b m) : b.length ≤ a.length + m := by
  obtain ⟨x, rfl, hx⟩ := h
  simp; omega
theorem Ext.le {a b : List Ln} {m : Nat} (h : Ext a b m) : a.length ≤ b.length := by
  obtain ⟨x, rfl, hx⟩ := h
  simp
theorem Says.lt {ls : List Ln} {c : Nat} {x y : Wd} (h : Says ls c x y) : c < ls.length := by
  obtain ⟨n, h1, _⟩ := h
  exact (List.getElem?_eq_some_iff.1 h1).1
theorem Says.last (ls : List Ln) (n : Ln) : Says (ls ++ [n]) ls.length n.left n.right := ⟨n, by simp, rfl, rfl⟩
theorem Says.uniq {ls : List Ln} {c : Nat} {x y x' y' : Wd} (h : Says ls c x y) (h' : Says ls c x' y') : x = x' ∧ y = y' := by
  obtain ⟨n, h1, h2, h3⟩ := h
  obtain ⟨m, k1, k2, k3⟩ := h'
  rw [h1] at k1
  cases k1
  exact ⟨h2.symm.trans k2, h3.symm.trans k3⟩

theorem Drawn.more {said : List Rl} {ls ls' : List Ln} {i : Nat} {n : Ln} (h : Drawn said ls i n) (h' : ∀ (j : Nat) (m : Ln), ls[j]? = some m → ls'[j]? = some m) : Drawn said ls' i n := by
  cases h with
  | self x => exact .self x
  | said k x y h => exact .said k x y h
  | back j m hj hm => exact .back j m hj (h' _ _ hm)
  | thn j k m o hj hk hm ho h => exact .thn j k m o hj hk (h' _ _ hm) (h' _ _ ho) h
  | within j m u v hj hm => exact .within j m u v hj (h' _ _ hm)

theorem Sheet.nil (L M : Nat) (said : List Rl) : Sheet L M said [] := ⟨by simp, by simp⟩
theorem Sheet.add {L M : Nat} {said : List Rl} {ls : List Ln} (h : Sheet L M said ls) {n : Ln} (hn : Drawn said ls ls.length n) (h1 : isWord L M n.left = true) (h2 : isWord L M n.right = true) : Sheet L M said (ls ++ [n]) := by
  have hm : ∀ j m, ls[j]? = some m → (ls ++ [n])[j]? = some m := fun j m h => (Ext.one ls n).get h
  refine ⟨?_, ?_⟩
  · intro m hm
    rcases List.mem_append.1 hm with h' | h'
    · exact h.words m h'
    · simp at h'; subst h'; exact ⟨h1, h2⟩
  · intro i m hi
    by_cases hl : i < ls.length
    · rw [List.getElem?_append_left hl] at hi
      exact (h.drawn i m hi).more hm
    · have hl' := (List.getElem?_eq_some_iff.1 hi).1
      simp at hl'
      have : i = ls.length := by omega
      subst this
      simp at hi
      subst hi
      exact hn.more hm
theorem Sheet.word {L M : Nat} {said : List Rl} {ls : List Ln} (h : Sheet L M said ls) {c : Nat} {x y : Wd} (hs : Says ls c x y) : isWord L M x = true ∧ isWord L M y = true := by
  obtain ⟨n, h1, rfl, rfl⟩ := hs
  exact h.words n (List.mem_of_getElem? h1)

/-- Lines that are drawn tell the truth. -/
theorem Sheet.sound {L M : Nat} {said : List Rl} {ls : List Ln} (h : Sheet L M said ls) : ∀ i, ∀ x y, Says ls i x y → Eqv L M said x y := by
  intro i
  induction i using Nat.strongRecOn with
  | ind i ih =>
    rintro x y ⟨n, hn, rfl, rfl⟩
    have hw := h.words n (List.mem_of_getElem? hn)
    have hd := h.drawn i n hn
    have C := eqv_clo L M said
    cases hd with
    | self x => exact C.self _ hw.1
    | said k x y hk => exact C.said (_, _) (List.mem_of_getElem? hk)
    | back j m hj hm => exact C.back _ _ (ih j hj _ _ ⟨m, hm, rfl, rfl⟩)
    | thn j k m o hj hk hm ho e => exact C.next _ _ _ (ih j hj _ _ ⟨m, hm, rfl, rfl⟩) (e ▸ ih k hk _ _ ⟨o, ho, rfl, rfl⟩)
    | within j m u v hj hm => exact C.within u _ _ v (ih j hj _ _ ⟨m, hm, rfl, rfl⟩) hw.1 hw.2

/-! Kinds. -/
structure KE where
  k : Nat
  ws : List Wd
  m : Wd
abbrev Pl := Wd → Option (Nat × Nat)
def Tog (P : Pl) (x y : Wd) : Prop := ∃ k l l', P x = some (k, l) ∧ P y = some (k, l')
/-- x, and what is less, are put within each letter. -/
def Spr (L : Nat) (P : Pl) (x : Wd) : Prop := ∃ y, Tog P x y ∧ fold L y < fold L x ∧ ∀ c, okc L c = true → Tog P (x ++ [c]) (y ++ [c]) ∧ Tog P (c :: x) (c :: y)
def cost (n : Nat) : Nat := n * Nat.log2 n
def nw (K : List KE) : Nat := (K.map fun A => A.ws.length).sum
def sF (K : List KE) : Nat := (K.map fun A => cost A.ws.length).sum

/-- What is drawn: the sheet, where each word stands, the kinds, what waits; of what is taken out so many. -/
structure DI (L M : Nat) (said : List Rl) (ls : List Ln) (P : Pl) (K : List KE) (Q ex : List Wd) (T : Nat) : Prop where
  sheet : Sheet L M said ls
  ids : (K.map KE.k).Nodup
  nd : (K.flatMap KE.ws).Nodup
  root : ∀ A, A ∈ K → ∃ r, ∀ x, x ∈ A.ws → ∃ l, P x = some (A.k, l) ∧ Says ls l x r
  only : ∀ x k l, P x = some (k, l) → ∃ A, A ∈ K ∧ A.k = k ∧ x ∈ A.ws
  least : ∀ A, A ∈ K → A.m ∈ A.ws ∧ ∀ x, x ∈ A.ws → fold L A.m ≤ fold L x
  wait : ∀ A, A ∈ K → ∀ x, x ∈ A.ws → x ≠ A.m → x.length < M → x ∈ Q ∨ x ∈ ex ∨ Spr L P x
  qs : ∀ x, x ∈ Q → x.length < M ∧ ∃ A, A ∈ K ∧ x ∈ A.ws ∧ x ≠ A.m
  num : Q.length + T + K.length ≤ nw K
  few : ls.length + 3 * K.length ≤ 4 * nw K + 2 * T + 3 * sF K

theorem Tog.symm {P : Pl} {x y : Wd} (h : Tog P x y) : Tog P y x := by
  obtain ⟨k, l, l', h1, h2⟩ := h
  exact ⟨k, l', l, h2, h1⟩
theorem Tog.trans {P : Pl} {x y z : Wd} (h : Tog P x y) (h' : Tog P y z) : Tog P x z := by
  obtain ⟨k, l, l', h1, h2⟩ := h
  obtain ⟨k2, l2, l2', h3, h4⟩ := h'
  rw [h2] at h3
  cases h3
  exact ⟨k, l, l2', h1, h4⟩
theorem Spr.mono {L : Nat} {P P' : Pl} {x : Wd} (h : Spr L P x) (hm : ∀ x y, Tog P x y → Tog P' x y) : Spr L P' x := by
  obtain ⟨y, h1, h2, h3⟩ := h
  exact ⟨y, hm _ _ h1, h2, fun c hc => ⟨hm _ _ (h3 c hc).1, hm _ _ (h3 c hc).2⟩⟩

theorem nodup_le {l l' : List Wd} (hn : l.Nodup) (hs : ∀ x, x ∈ l → x ∈ l') : l.length ≤ l'.length := by
  induction l generalizing l' with
  | nil => simp
  | cons x l ih =>
    have hx := hs x (by simp)
    rw [List.nodup_cons] at hn
    have := ih (l' := l'.erase x) hn.2 (fun y hy => by
      have : y ≠ x := by rintro rfl; exact hn.1 hy
      exact (List.mem_erase_of_ne this).2 (hs y (by simp [hy])))
    rw [List.length_erase_of_mem hx] at this
    have := List.length_pos_of_mem hx
    simp; omega

theorem nw_eq (K : List KE) : nw K = (K.flatMap KE.ws).length := by
  induction K with
  | nil => rfl
  | cons A K ih => simp [nw] at *
theorem off_7 {L M : Nat} (hL : L ≤ 3) (hM : M ≤ 6) : (upTo L M).length ≤ 1093 := by
  rw [length_upTo hL]
  have : M + 1 ≤ 7 := by omega
  refine Nat.le_trans (off_mono L this) ?_
  match L, hL with
  | 0, _ => decide
  | 1, _ => decide
  | 2, _ => decide
  | 3, _ => decide
theorem cost_le {n : Nat} (h : n ≤ 1093) : cost n ≤ 10 * n := by
  unfold cost
  have : Nat.log2 n ≤ 10 := by
    by_cases h0 : n = 0
    · subst h0; decide
    · have := (Nat.log2_lt h0 (k := 11)).2 (by omega)
      omega
  rw [Nat.mul_comm]
  exact Nat.mul_le_mul_right _ this
theorem sF_le {K : List KE} (h : nw K ≤ 1093) : sF K ≤ 10 * nw K := by
  induction K with
  | nil => simp [sF, nw]
  | cons A K ih =>
    have e : nw (A :: K) = A.ws.length + nw K := by simp [nw]
    have e2 : sF (A :: K) = cost A.ws.length + sF K := by simp [sF]
    have := ih (by omega)
    have := cost_le (n := A.ws.length) (by omega)
    omega
theorem DI.placed {L M : Nat} {said : List Rl} {ls : List Ln} {P : Pl} {K : List KE} {Q ex : List Wd} {T : Nat} (h : DI L M said ls P K Q ex T) {A : KE} (hA : A ∈ K) {x : Wd} (hx : x ∈ A.ws) : isWord L M x = true := by
  obtain ⟨r, hr⟩ := h.root A hA
  obtain ⟨l, _, hl⟩ := hr x hx
  exact (h.sheet.word hl).1
theorem DI.n_le {L M : Nat} {said : List Rl} {ls : List Ln} {P : Pl} {K : List KE} {Q ex : List Wd} {T : Nat} (h : DI L M said ls P K Q ex T) (hL : L ≤ 3) (hM : M ≤ 6) : nw K ≤ 1093 := by
  rw [nw_eq]
  refine Nat.le_trans (nodup_le h.nd (fun x hx => ?_)) (off_7 hL hM)
  obtain ⟨A, hA, hx⟩ := List.mem_flatMap.1 hx
  exact (mem_upTo hL M x).2 (h.placed hA hx)
theorem DI.bound {L M : Nat} {said : List Rl} {ls : List Ln} {P : Pl} {K : List KE} {Q ex : List Wd} {T : Nat} (h : DI L M said ls P K Q ex T) (hL : L ≤ 3) (hM : M ≤ 6) : nw K ≤ 1093 ∧ ls.length ≤ 39348 ∧ Q.length + T ≤ 1093 := by
  have h1 := h.n_le hL hM
  have h2 := sF_le h1
  have h3 := h.num
  have h4 := h.few
  exact ⟨h1, by omega, by omega⟩

theorem DI.start (L M : Nat) (said : List Rl) : DI L M said [] (fun _ => none) [] [] [] 0 where
  sheet := Sheet.nil _ _ _
  ids := by simp
  nd := by simp
  root := (by simp)
  only := (by simp)
  least := by simp
  wait := by simp
  qs := by simp
  num := by simp
  few := by simp

/-- where a word stands. -/
def Pl.set (P : Pl) (x : Wd) (v : Nat × Nat) : Pl := fun y => if y = x then some v else P y
theorem Pl.set_same (P : Pl) (x : Wd) (v : Nat × Nat) : P.set x v x = some v := by simp [Pl.set]
theorem Pl.set_other (P : Pl) {x y : Wd} (v : Nat × Nat) (h : y ≠ x) : P.set x v y = P y := by simp [Pl.set, h]

theorem DI.at_new {L M : Nat} {said : List Rl} {ls : List Ln} {P : Pl} {K : List KE} {Q ex : List Wd} {T : Nat} (h : DI L M said ls P K Q ex T) {x : Wd} {k : Nat} (hx : isWord L M x = true) (hP : P x = none) (hk : k ∉ K.map KE.k) :
    DI L M said (ls ++ [⟨0, x, x, 0, 0, 0, [], []⟩]) (P.set x (k, ls.length)) (⟨k, [x], x⟩ :: K) Q ex T ∧ ∀ y z, Tog P y z → Tog (P.set x (k, ls.length)) y z := by
  have hother : ∀ y v, P y = some v → P.set x (k, ls.length) y = some v := by
    intro y v hy
    rw [Pl.set_other _ _ (by rintro rfl; rw [hP] at hy; cases hy)]; exact hy
  have hne : ∀ A, A ∈ K → x ∉ A.ws := by
    intro A hA hxA
    obtain ⟨r, hr⟩ := h.root A hA
    obtain ⟨l, hl, _⟩ := hr x hxA
    rw [hP] at hl; cases hl
  have htog : ∀ y z, Tog P y z → Tog (P.set x (k, ls.length)) y z := by
    rintro y z ⟨k, l, l', h1, h2⟩
    exact ⟨k, l, l', hother _ _ h1, hother _ _ h2⟩
  have hc1 : cost 1 = 0 := by decide
  refine ⟨⟨h.sheet.add (.self x) hx hx, ?_, ?_, ?_, ?_, ?_, ?_, ?_, ?_, ?_⟩, htog⟩
  · simp only [List.map_cons, List.nodup_cons]; exact ⟨hk, h.ids⟩
  · simp only [List.flatMap_cons, List.singleton_append, List.nodup_cons]
    refine ⟨?_, h.nd⟩
    intro hm
    obtain ⟨A, hA, hxA⟩ := List.mem_flatMap.1 hm
    exact hne A hA hxA
  · intro A hA
    rcases List.mem_cons.1 hA with rfl | hA
    · refine ⟨x, ?_⟩
      intro y hy
      simp at hy; subst hy
      exact ⟨ls.length, Pl.set_same _ _ _, Says.last ls _⟩
    · obtain ⟨r, hr⟩ := h.root A hA
      refine ⟨r, fun y hy => ?_⟩
      obtain ⟨l, h1, h2⟩ := hr y hy
      exact ⟨l, hother _ _ h1, (Ext.one ls _).says h2⟩
  · intro y k' l hy
    by_cases e : y = x
    · subst e
      rw [Pl.set_same] at hy
      cases hy
      exact ⟨_, List.mem_cons_self, rfl, by simp⟩
    · rw [Pl.set_other _ _ e] at hy
      obtain ⟨A, hA, h1, h2⟩ := h.only y k' l hy
      exact ⟨A, List.mem_cons_of_mem _ hA, h1, h2⟩
  · intro A hA
    rcases List.mem_cons.1 hA with rfl | hA
    · simp
    · exact h.least A hA
  · intro A hA y hy hym hyM
    rcases List.mem_cons.1 hA with rfl | hA
    · simp at hy; exact absurd hy hym
    · rcases h.wait A hA y hy hym hyM with h' | h' | h'
      · exact .inl h'
      · exact .inr (.inl h')
      · exact .inr (.inr (h'.mono htog))
  · intro y hy
    obtain ⟨h1, A, hA, h2⟩ := h.qs y hy
    exact ⟨h1, A, List.mem_cons_of_mem _ hA, h2⟩
  · have := h.num
    simp [nw] at *; omega
  · have := h.few
    simp [nw, sF, hc1] at *; omega

theorem DI.ext {L M : Nat} {said : List Rl} {ls ls' : List Ln} {P : Pl} {K : List KE} {Q Q' ex : List Wd} {T : Nat} {x : Wd} (h : DI L M said ls P K Q ex T) (hs : Sheet L M said ls') (he : Ext ls ls' 2)
    (hx : x ∈ Q) (hQ : ∀ y, y ∈ Q → y = x ∨ y ∈ Q') (hQ' : ∀ y, y ∈ Q' → y ∈ Q) (hl : Q'.length + 1 = Q.length) : DI L M said ls' P K Q' (x :: ex) (T + 1) where
  sheet := hs
  ids := h.ids
  nd := h.nd
  root A hA := by
    obtain ⟨r, hr⟩ := h.root A hA
    refine ⟨r, fun y hy => ?_⟩
    obtain ⟨l, h1, h2⟩ := hr y hy
    exact ⟨l, h1, he.says h2⟩
  only := h.only
  least := h.least
  wait A hA y hy hym hyM := by
    rcases h.wait A hA y hy hym hyM with h' | h' | h'
    · rcases hQ y h' with rfl | h'
      · exact .inr (.inl (by simp))
      · exact .inl h'
    · exact .inr (.inl (by simp [h']))
    · exact .inr (.inr h')
  qs y hy := h.qs y (hQ' y hy)
  num := by have := h.num; omega
  few := by have := h.few; have := he.len; omega

theorem DI.spread {L M : Nat} {said : List Rl} {ls : List Ln} {P : Pl} {K : List KE} {Q ex : List Wd} {T : Nat} {x : Wd} (h : DI L M said ls P K Q (x :: ex) T) (hx : Spr L P x) : DI L M said ls P K Q ex T where
  sheet := h.sheet
  ids := h.ids
  nd := h.nd
  root := h.root
  only := h.only
  least := h.least
  wait A hA y hy hym hyM := by
    rcases h.wait A hA y hy hym hyM with h' | h' | h'
    · exact .inl h'
    · rcases List.mem_cons.1 h' with rfl | h'
      · exact .inr (.inr hx)
      · exact .inr (.inl h')
    · exact .inr (.inr h')
  qs := h.qs
  num := h.num
  few := h.few

theorem log2_mono {a b : Nat} (h : a ≤ b) (ha : a ≠ 0) : Nat.log2 a ≤ Nat.log2 b := by
  rw [Nat.le_log2 (by omega)]
  exact Nat.le_trans (Nat.log2_self_le ha) h
theorem cost_join {a b : Nat} (h : a ≤ b) : cost a + cost b + a ≤ cost (b + a) := by
  unfold cost
  by_cases ha : a = 0
  · subst ha; simp
  have h1 : Nat.log2 b ≤ Nat.log2 (b + a) := log2_mono (by omega) (by omega)
  have h2 : Nat.log2 a + 1 ≤ Nat.log2 (b + a) := by
    rw [Nat.le_log2 (by omega), Nat.pow_succ]
    have := Nat.log2_self_le ha
    omega
  rw [Nat.add_mul]
  have h3 := Nat.mul_le_mul_left b h1
  have h4 := Nat.mul_le_mul_left a h2
  rw [Nat.mul_add] at h4
  omega
theorem perm_nw {K K' : List KE} (h : K.Perm K') : nw K = nw K' := (h.map _).sum_nat
theorem perm_sF {K K' : List KE} (h : K.Perm K') : sF K = sF K' := (h.map _).sum_nat

theorem DI.perm {L M : Nat} {said : List Rl} {ls : List Ln} {P : Pl} {K K' : List KE} {Q ex : List Wd} {T : Nat} (h : DI L M said ls P K Q ex T) (hp : K.Perm K') : DI L M said ls P K' Q ex T where
  sheet := h.sheet
  ids := (hp.map KE.k).nodup_iff.1 h.ids
  nd := (List.Perm.flatMap_right KE.ws hp).nodup_iff.1 h.nd
  root A hA := h.root A (hp.mem_iff.2 hA)
  only x k l hx := by
    obtain ⟨A, hA, r⟩ := h.only x k l hx
    exact ⟨A, hp.mem_iff.1 hA, r⟩
  least A hA := h.least A (hp.mem_iff.2 hA)
  wait A hA := h.wait A (hp.mem_iff.2 hA)
  qs x hx := by
    obtain ⟨h1, A, hA, r⟩ := h.qs x hx
    exact ⟨h1, A, hp.mem_iff.1 hA, r⟩
  num := by have := h.num; rw [perm_nw hp, hp.length_eq] at this; exact this
  few := by have := h.few; rw [perm_nw hp, perm_sF hp, hp.length_eq] at this; exact this

/-- the lesser one of both, and the other one. -/
def lesser (L : Nat) (a b : Wd) : Wd := if fold L a < fold L b then a else b
def lost (L : Nat) (a b : Wd) : Wd := if fold L a < fold L b then b else a

theorem DI.join {L M : Nat} {said : List Rl} {ls ls' : List Ln} {P P' : Pl} {A B : KE} {K : List KE} {Q Q' ex : List Wd} {T : Nat} (h : DI L M said ls P (A :: B :: K) Q ex T) (hL : L ≤ 3) (hab : A.ws.length ≤ B.ws.length)
    (hs : Sheet L M said ls') (he : Ext ls ls' (3 + 3 * A.ws.length)) (hP : ∀ x, x ∉ A.ws → P' x = P x) (r : Wd) (hA : ∀ x, x ∈ A.ws → ∃ l, P' x = some (B.k, l) ∧ Says ls' l x r) (hB : ∀ x, x ∈ B.ws → ∃ l, P x = some (B.k, l) ∧ Says ls l x r)
    (hQ : ∀ x, x ∈ Q → x ∈ Q') (hQ' : ∀ x, x ∈ Q' → x ∈ Q ∨ (x = lost L A.m B.m ∧ x.length < M)) (hlen : Q'.length ≤ Q.length + 1) (hlost : (lost L A.m B.m).length < M → lost L A.m B.m ∈ Q') :
    DI L M said ls' P' (⟨B.k, B.ws ++ A.ws, lesser L A.m B.m⟩ :: K) Q' ex T ∧ (∀ x y, Tog P x y → Tog P' x y) ∧ ∀ x y, x ∈ A.ws → y ∈ B.ws → Tog P' x y := by
  have hAm := h.least A (by simp)
  have hBm := h.least B (by simp)
  have hnd := h.nd
  simp only [List.flatMap_cons] at hnd
  have hnd' : (A.ws ++ B.ws ++ K.flatMap KE.ws).Nodup := by rw [List.append_assoc]; exact hnd
  have hABd : ∀ x, x ∈ A.ws → x ∉ B.ws := fun x h1 h2 => (List.nodup_append.1 (List.nodup_append.1 hnd').1).2.2 x h1 x h2 rfl
  have hKd : ∀ C, C ∈ K → ∀ x, x ∈ C.ws → x ∉ A.ws := fun C hC x hx hxA => (List.nodup_append.1 hnd).2.2 x hxA x (List.mem_append_right _ (List.mem_flatMap.2 ⟨C, hC, hx⟩)) rfl
  have hne : A.m ≠ B.m := fun e => hABd A.m hAm.1 (e ▸ hBm.1)
  have hids := h.ids
  simp only [List.map_cons, List.nodup_cons] at hids
  -- where words stand
  have hAk : ∀ x l k, x ∈ A.ws → P x = some (k, l) → k = A.k := by
    intro x l k hx hl
    obtain ⟨r', hr'⟩ := h.root A (by simp)
    obtain ⟨l', h1, _⟩ := hr' x hx
    rw [hl] at h1; cases h1; rfl
  have hto : ∀ x k l, P x = some (k, l) → ∃ l', P' x = some (if k = A.k then B.k else k, l') := by
    intro x k l hx
    by_cases hxA : x ∈ A.ws
    · obtain ⟨l', h1, _⟩ := hA x hxA
      have := hAk x l k hxA hx
      exact ⟨l', by rw [if_pos this]; exact h1⟩
    · obtain ⟨C, hC, h1, h2⟩ := h.only x k l hx
      have hk : k ≠ A.k := by
        rintro rfl
        rcases List.mem_cons.1 hC with rfl | hC
        · exact hxA h2
        · have : C.k ∈ (B :: K).map KE.k := List.mem_map_of_mem hC
          rw [h1] at this
          exact hids.1 (by simpa using this)
      exact ⟨l, by rw [if_neg hk, hP x hxA]; exact hx⟩
  have htog : ∀ x y, Tog P x y → Tog P' x y := by
    rintro x y ⟨k, l, l', h1, h2⟩
    obtain ⟨m1, e1⟩ := hto x k l h1
    obtain ⟨m2, e2⟩ := hto y k l' h2
    exact ⟨_, _, _, e1, e2⟩
  have hBP : ∀ x, x ∈ B.ws → ∃ l, P' x = some (B.k, l) ∧ Says ls' l x r := by
    intro x hx
    obtain ⟨l, h1, h2⟩ := hB x hx
    exact ⟨l, by rw [hP x (fun hA => hABd x hA hx)]; exact h1, he.says h2⟩
  have hless : lesser L A.m B.m ∈ B.ws ++ A.ws ∧ ∀ x, x ∈ B.ws ++ A.ws → fold L (lesser L A.m B.m) ≤ fold L x := by
    unfold lesser
    split
    · rename_i hlt
      refine ⟨List.mem_append_right _ hAm.1, fun x hx => ?_⟩
      rcases List.mem_append.1 hx with hx | hx
      · have := hBm.2 x hx; omega
      · exact hAm.2 x hx
    · rename_i hlt
      refine ⟨List.mem_append_left _ hBm.1, fun x hx => ?_⟩
      rcases List.mem_append.1 hx with hx | hx
      · exact hBm.2 x hx
      · have := hAm.2 x hx; omega
  have hor : ∀ x, x ∈ B.ws ++ A.ws → x ≠ lesser L A.m B.m → x.length < M → x ∈ Q' ∨ x ∈ ex ∨ Spr L P' x := by
    intro x hx hxm hxM
    by_cases hxl : x = lost L A.m B.m
    · subst hxl; exact .inl (hlost hxM)
    · have hA' : x ≠ A.m := by
        intro e; subst e
        unfold lesser at hxm; unfold lost at hxl
        split at hxm <;> simp_all
      have hB' : x ≠ B.m := by
        intro e; subst e
        unfold lesser at hxm; unfold lost at hxl
        split at hxm <;> simp_all
      have : x ∈ Q ∨ x ∈ ex ∨ Spr L P x := by
        rcases List.mem_append.1 hx with hx | hx
        · exact h.wait B (by simp) x hx hB' hxM
        · exact h.wait A (by simp) x hx hA' hxM
      rcases this with h' | h' | h'
      · exact .inl (hQ x h')
      · exact .inr (.inl h')
      · exact .inr (.inr (h'.mono htog))
  have hlost_mem : lost L A.m B.m ∈ B.ws ++ A.ws ∧ lost L A.m B.m ≠ lesser L A.m B.m := by
    unfold lost lesser
    split
    · exact ⟨List.mem_append_left _ hBm.1, hne.symm⟩
    · exact ⟨List.mem_append_right _ hAm.1, hne⟩
  refine ⟨⟨hs, ?_, ?_, ?_, ?_, ?_, ?_, ?_, ?_, ?_⟩, htog, ?_⟩
  · simp only [List.map_cons, List.nodup_cons]; exact hids.2
  · simp only [List.flatMap_cons]
    refine (List.Perm.append_right _ List.perm_append_comm).nodup_iff.1 hnd'
  · intro C hC
    rcases List.mem_cons.1 hC with rfl | hC
    · refine ⟨r, fun x hx => ?_⟩
      rcases List.mem_append.1 hx with hx | hx
      · exact hBP x hx
      · exact hA x hx
    · obtain ⟨r', hr'⟩ := h.root C (by simp [hC])
      refine ⟨r', fun x hx => ?_⟩
      obtain ⟨l, h1, h2⟩ := hr' x hx
      exact ⟨l, by rw [hP x (hKd C hC x hx)]; exact h1, he.says h2⟩
  · intro x k l hx
    by_cases hxA : x ∈ A.ws
    · obtain ⟨l', h1, _⟩ := hA x hxA
      rw [h1] at hx; cases hx
      exact ⟨_, List.mem_cons_self, rfl, List.mem_append_right _ hxA⟩
    · rw [hP x hxA] at hx
      obtain ⟨C, hC, h1, h2⟩ := h.only x k l hx
      rcases List.mem_cons.1 hC with rfl | hC
      · exact absurd h2 hxA
      · rcases List.mem_cons.1 hC with rfl | hC
        · exact ⟨_, List.mem_cons_self, h1, List.mem_append_left _ h2⟩
        · exact ⟨C, List.mem_cons_of_mem _ hC, h1, h2⟩
  · intro C hC
    rcases List.mem_cons.1 hC with rfl | hC
    · exact hless
    · exact h.least C (by simp [hC])
  · intro C hC x hx hxm hxM
    rcases List.mem_cons.1 hC with rfl | hC
    · exact hor x hx hxm hxM
    · rcases h.wait C (by simp [hC]) x hx hxm hxM with h' | h' | h'
      · exact .inl (hQ x h')
      · exact .inr (.inl h')
      · exact .inr (.inr (h'.mono htog))
  · intro x hx
    rcases hQ' x hx with hx | ⟨rfl, hx⟩
    · obtain ⟨h1, C, hC, h2, h3⟩ := h.qs x hx
      refine ⟨h1, ?_⟩
      rcases List.mem_cons.1 hC with rfl | hC
      · refine ⟨_, List.mem_cons_self, List.mem_append_right _ h2, ?_⟩
        intro e
        have := hless.2 C.m (List.mem_append_right _ hAm.1)
        have h4 := hAm.2 x h2
        have : fold L x = fold L C.m := by
          have e' : fold L x = fold L (lesser L C.m B.m) := by rw [e]
          omega
        exact h3 (fold_inj hL M _ _ (h.placed (by simp) h2) (h.placed (by simp) hAm.1) this)
      · rcases List.mem_cons.1 hC with rfl | hC
        · refine ⟨_, List.mem_cons_self, List.mem_append_left _ h2, ?_⟩
          intro e
          have := hless.2 C.m (List.mem_append_left _ hBm.1)
          have h4 := hBm.2 x h2
          have : fold L x = fold L C.m := by
            have e' : fold L x = fold L (lesser L A.m C.m) := by rw [e]
            omega
          exact h3 (fold_inj hL M _ _ (h.placed (A := C) (by simp) h2) (h.placed (A := C) (by simp) hBm.1) this)
        · exact ⟨C, List.mem_cons_of_mem _ hC, h2, h3⟩
    · exact ⟨hx, _, List.mem_cons_self, hlost_mem.1, hlost_mem.2⟩
  · have := h.num
    simp [nw] at *; omega
  · have := h.few
    have := he.len
    have := cost_join hab
    simp [nw, sF] at *; omega
  · intro x y hx hy
    obtain ⟨l, h1, _⟩ := hA x hx
    obtain ⟨l', h2, _⟩ := hBP y hy
    exact ⟨_, _, _, h1, h2⟩

theorem k_inj {K : List KE} (hn : (K.map KE.k).Nodup) {A C : KE} (hA : A ∈ K) (hC : C ∈ K) (h : A.k = C.k) : A = C := by
  induction K with
  | nil => cases hA
  | cons B K ih =>
    simp only [List.map_cons, List.nodup_cons] at hn
    rcases List.mem_cons.1 hA with rfl | hA <;> rcases List.mem_cons.1 hC with rfl | hC
    · rfl
    · exact absurd (h ▸ List.mem_map_of_mem hC) hn.1
    · exact absurd (by rw [← h]; exact List.mem_map_of_mem (by assumption)) hn.1
    · exact ih hn.2 hA hC

/-- nothing waits. -/
theorem DI.done {L M : Nat} {said : List Rl} {ls : List Ln} {P : Pl} {K : List KE} {T : Nat} (h : DI L M said ls P K [] [] T) (hL : L ≤ 3) (hsaid : ∀ p, p ∈ said → isWord L M p.1 = true ∧ isWord L M p.2 = true ∧ (p.1 = p.2 ∨ Tog P p.1 p.2)) {x y : Wd} (he : Eqv L M said x y) :
    x = y ∨ Tog P x y := by
  have togm : ∀ A, A ∈ K → ∀ x, x ∈ A.ws → ∀ y, y ∈ A.ws → Tog P x y := by
    intro A hA x hx y hy
    obtain ⟨r, hr⟩ := h.root A hA
    obtain ⟨l, h1, _⟩ := hr x hx
    obtain ⟨l', h2, _⟩ := hr y hy
    exact ⟨_, _, _, h1, h2⟩
  have tr : ∀ a b c : Wd, (a = b ∨ Tog P a b) → (b = c ∨ Tog P b c) → (a = c ∨ Tog P a c) := by
    rintro a b c (rfl | h1) (rfl | h2)
    · exact .inl rfl
    · exact .inr h2
    · exact .inr h1
    · exact .inr (h1.trans h2)
  have sy : ∀ a b : Wd, (a = b ∨ Tog P a b) → (b = a ∨ Tog P b a) := by
    rintro a b (rfl | h1)
    · exact .inl rfl
    · exact .inr h1.symm
  -- each word beside the least one
  have key : ∀ n, ∀ A, A ∈ K → ∀ x, x ∈ A.ws → fold L x = n → x.length < M → ∀ c, okc L c = true → (x ++ [c] = A.m ++ [c] ∨ Tog P (x ++ [c]) (A.m ++ [c])) ∧ (c :: x = c :: A.m ∨ Tog P (c :: x) (c :: A.m)) := by
    intro n
    induction n using Nat.strongRecOn with
    | ind n ih =>
      intro A hA x hx hn hM c hc
      by_cases e : x = A.m
      · subst e; exact ⟨.inl rfl, .inl rfl⟩
      · rcases h.wait A hA x hx e hM with h' | h' | ⟨y, h1, h2, h3⟩
        · cases h'
        · cases h'
        · obtain ⟨k, l, l', p1, p2⟩ := h1
          have hy : y ∈ A.ws := by
            obtain ⟨r, hr⟩ := h.root A hA
            obtain ⟨l2, q1, _⟩ := hr x hx
            rw [p1] at q1; cases q1
            obtain ⟨C, hC, c1, c2⟩ := h.only y _ _ p2
            have : C = A := k_inj h.ids hC hA c1
            rw [← this]; exact c2
          have hxw := (isWord_iff _ _ _).1 (h.placed hA hx)
          have hyw := (isWord_iff _ _ _).1 (h.placed hA hy)
          have hyl := length_le_of_fold hL hyw.1 hxw.1 (Nat.le_of_lt h2)
          have := ih (fold L y) (by omega) A hA y hy rfl (by omega) c hc
          exact ⟨tr _ _ _ (.inr (h3 c hc).1) this.1, tr _ _ _ (.inr (h3 c hc).2) this.2⟩
  have step : ∀ x y, (x = y ∨ Tog P x y) → x.length < M → y.length < M → ∀ c, okc L c = true → (x ++ [c] = y ++ [c] ∨ Tog P (x ++ [c]) (y ++ [c])) ∧ (c :: x = c :: y ∨ Tog P (c :: x) (c :: y)) := by
    rintro x y (rfl | ⟨k, l, l', p1, p2⟩) hx hy c hc
    · exact ⟨.inl rfl, .inl rfl⟩
    · obtain ⟨A, hA, a1, a2⟩ := h.only x k l p1
      obtain ⟨C, hC, c1, c2⟩ := h.only y k l' p2
      have : C = A := k_inj h.ids hC hA (c1.trans a1.symm)
      subst this
      have k1 := key _ C hC x a2 rfl hx c hc
      have k2 := key _ C hC y c2 rfl hy c hc
      exact ⟨tr _ _ _ k1.1 (sy _ _ k2.1), tr _ _ _ k1.2 (sy _ _ k2.2)⟩
  have ahead : ∀ (u x y : Wd), (x = y ∨ Tog P x y) → isWord L M (u ++ x) = true → isWord L M (u ++ y) = true → (u ++ x = u ++ y ∨ Tog P (u ++ x) (u ++ y)) := by
    intro u
    induction u with
    | nil => intro x y h1 _ _; exact h1
    | cons c u ih =>
      intro x y h1 hx hy
      rw [isWord_iff] at hx hy
      simp at hx hy
      have := ih x y h1 (by rw [isWord_iff]; simp; exact ⟨hx.1.2, by omega⟩) (by rw [isWord_iff]; simp; exact ⟨hy.1.2, by omega⟩)
      exact (step _ _ this (by simp; omega) (by simp; omega) c hx.1.1).2
  have behind : ∀ (n : Nat) (v x y : Wd), v.length = n → (x = y ∨ Tog P x y) → isWord L M (x ++ v) = true → isWord L M (y ++ v) = true → (x ++ v = y ++ v ∨ Tog P (x ++ v) (y ++ v)) := by
    intro n
    induction n with
    | zero => intro v x y hv h1 _ _; obtain rfl := List.length_eq_zero_iff.1 hv; simpa using h1
    | succ n ih =>
      intro v x y hv h1 hx hy
      match v, hv with
      | c :: v, hv =>
        rw [isWord_iff] at hx hy
        simp at hx hy hv
        have := (step _ _ h1 (by omega) (by omega) c hx.1.2.1).1
        have := ih v (x ++ [c]) (y ++ [c]) hv this (by rw [isWord_iff]; simp; exact ⟨⟨hx.1.1, hx.1.2⟩, by omega⟩) (by rw [isWord_iff]; simp; exact ⟨⟨hy.1.1, hy.1.2⟩, by omega⟩)
        simpa using this
  have C : Clo L M said (fun x y => x = y ∨ Tog P x y) := by
    refine ⟨fun x _ => .inl rfl, sy, tr, fun p hp => (hsaid p hp).2.2, ?_⟩
    intro u x y v h1 hx hy
    have := ahead u x y h1 (isWord_piece (u := []) (by simpa using hx)) (isWord_piece (u := []) (by simpa using hy))
    exact behind _ v _ _ rfl this hx hy
  exact he _ C


/-! What is told of a sheet. -/
/-- the lines that a line hangs on. -/
def Ln.refs (n : Ln) : List Nat := if n.how = 3 then [n.a.toNat, n.b.toNat] else if n.how = 2 ∨ n.how = 4 then [n.a.toNat] else []
def renum (num : List Nat) (n : Ln) : Ln := ⟨n.how, n.left, n.right, n.said, if n.how = 3 ∨ n.how = 2 ∨ n.how = 4 then (num.getD n.a.toNat 0 : Nat) else n.a, if n.how = 3 then (num.getD n.b.toNat 0 : Nat) else n.b, n.ahead, n.behind⟩

theorem Drawn.refs {said : List Rl} {ls : List Ln} {i : Nat} {n : Ln} (h : Drawn said ls i n) : ∀ j, j ∈ n.refs → j < i := by
  intro j hj
  cases h with
  | self x => simp [Ln.refs] at hj
  | said k x y h => simp [Ln.refs] at hj
  | back j m hj' hm => simp [Ln.refs] at hj; omega
  | thn j k m o hj' hk hm ho h => simp [Ln.refs] at hj; omega
  | within j m u v hj' hm => simp [Ln.refs] at hj; omega

/-- what is told up to a line. -/
structure Told (L M : Nat) (said : List Rl) (ls told : List Ln) (f : Nat → Bool) (num : List Nat) (i : Nat) : Prop where
  sheet : Sheet L M said told
  len : told.length ≤ i
  num : ∀ j, j < i → f j = true → ∃ q x y, num[j]? = some q ∧ Says ls j x y ∧ Says told q x y
  last : ∀ j, i = j + 1 → f j = true → ∃ t n x y, told = t ++ [n] ∧ n.left = x ∧ n.right = y ∧ Says ls j x y

theorem Told.start (L M : Nat) (said : List Rl) (ls : List Ln) (f : Nat → Bool) (num : List Nat) : Told L M said ls [] f num 0 := ⟨Sheet.nil _ _ _, by simp, by simp, by simp⟩
theorem Told.skip {L M : Nat} {said : List Rl} {ls told : List Ln} {f : Nat → Bool} {num : List Nat} {i : Nat} (h : Told L M said ls told f num i) (hf : f i = false) : Told L M said ls told f num (i + 1) := by
  refine ⟨h.sheet, by have := h.len; omega, fun j hj hfj => ?_, fun j hj hfj => ?_⟩
  · by_cases e : j = i
    · subst e; rw [hf] at hfj; cases hfj
    · exact h.num j (by omega) hfj
  · obtain rfl : i = j := by omega
    rw [hf] at hfj; cases hfj
theorem Told.step {L M : Nat} {said : List Rl} {ls told : List Ln} {f : Nat → Bool} {num : List Nat} {i : Nat} (h : Told L M said ls told f num i) (hs : Sheet L M said ls) {n : Ln} (hn : ls[i]? = some n) (hr : ∀ j, j ∈ n.refs → f j = true) (hi : i < num.length) :
    Told L M said ls (told ++ [renum num n]) f (num.set i told.length) (i + 1) := by
  have hw := hs.words n (List.mem_of_getElem? hn)
  have hd := hs.drawn i n hn
  have hrf := hd.refs
  have key : ∀ j, j ∈ n.refs → ∃ q m m', num[j]? = some q ∧ ls[j]? = some m ∧ told[q]? = some m' ∧ m'.left = m.left ∧ m'.right = m.right := by
    intro j hj
    obtain ⟨q, x, y, h1, ⟨m, h2, h3, h4⟩, ⟨m', h5, h6, h7⟩⟩ := h.num j (hrf j hj) (hr j hj)
    exact ⟨q, m, m', h1, h2, h5, h6.trans h3.symm, h7.trans h4.symm⟩
  have hD : Drawn said told told.length (renum num n) := by
    cases hd with
    | self x => exact .self x
    | said k x y hk => exact .said k x y hk
    | back j m hj hm =>
      obtain ⟨q, m1, m', h1, h2, h3, h4, h5⟩ := key j (by simp [Ln.refs])
      rw [hm] at h2; cases h2
      have := Drawn.back (said := said) (ls := told) (i := told.length) q m' (List.getElem?_eq_some_iff.1 h3).1 h3
      rw [h4, h5] at this
      simpa [renum, h1] using this
    | thn j k m o hj hk hm ho e =>
      obtain ⟨q, m1, m', h1, h2, h3, h4, h5⟩ := key j (by simp [Ln.refs])
      rw [hm] at h2; cases h2
      obtain ⟨p, o1, o', k1, k2, k3, k4, k5⟩ := key k (by simp [Ln.refs])
      rw [ho] at k2; cases k2
      have := Drawn.thn (said := said) (ls := told) (i := told.length) q p m' o' (List.getElem?_eq_some_iff.1 h3).1 (List.getElem?_eq_some_iff.1 k3).1 h3 k3 (by rw [h5, k4]; exact e)
      rw [h4, k5] at this
      simpa [renum, h1, k1] using this
    | within j m u v hj hm =>
      obtain ⟨q, m1, m', h1, h2, h3, h4, h5⟩ := key j (by simp [Ln.refs])
      rw [hm] at h2; cases h2
      have := Drawn.within (said := said) (ls := told) (i := told.length) q m' u v (List.getElem?_eq_some_iff.1 h3).1 h3
      rw [h4, h5] at this
      simpa [renum, h1] using this
  refine ⟨h.sheet.add hD hw.1 hw.2, by have := h.len; simp; omega, fun j hj hfj => ?_, fun j hj hfj => ?_⟩
  · by_cases e : j = i
    · subst e
      exact ⟨told.length, n.left, n.right, by simp [hi], ⟨n, hn, rfl, rfl⟩, Says.last told (renum num n)⟩
    · obtain ⟨q, x, y, h1, h2, h3⟩ := h.num j (by omega) hfj
      exact ⟨q, x, y, by rw [List.getElem?_set_ne (by omega)]; exact h1, h2, (Ext.one told _).says h3⟩
  · obtain rfl : i = j := by omega
    exact ⟨told, renum num n, n.left, n.right, rfl, rfl, rfl, ⟨n, hn, rfl, rfl⟩⟩
end Hw
