import Derived.Test.YtfiebibpgbadlaaGreatKb
namespace Hw
set_option linter.unusedVariables false
set_option linter.unusedSimpArgs false
/-! Rules that can be looked at: a check that is run. -/
def occB (p : Wd) : Wd → Bool
  | [] => p.isPrefixOf []
  | c :: s => p.isPrefixOf (c :: s) || occB p s

theorem occB_iff (p : Wd) : ∀ s, occB p s = true ↔ Occ p s
  | [] => by
    unfold occB
    rw [List.isPrefixOf_iff_prefix]
    constructor
    · rintro ⟨v, hv⟩; exact ⟨[], v, by simpa using hv.symm⟩
    · rintro ⟨u, v, e⟩
      have h1 := congrArg List.length e
      simp at h1
      have : p = [] := List.length_eq_zero_iff.1 (by omega)
      subst this; exact ⟨[], rfl⟩
  | c :: s => by
    unfold occB
    rw [Bool.or_eq_true, List.isPrefixOf_iff_prefix, occB_iff p s]
    constructor
    · rintro (⟨v, hv⟩ | ⟨u, v, e⟩)
      · exact ⟨[], v, by simpa using hv.symm⟩
      · exact ⟨c :: u, v, by rw [e]; simp⟩
    · rintro ⟨u, v, e⟩
      match u with
      | [] => exact Or.inl ⟨v, by simpa using e.symm⟩
      | d :: u =>
        simp at e
        exact Or.inr ⟨u, v, by simpa using e.2⟩

def repl (p t : Wd) : Wd → Option Wd
  | [] => if p.isPrefixOf [] then some t else none
  | c :: s => if p.isPrefixOf (c :: s) then some (t ++ (c :: s).drop p.length) else (repl p t s).map (c :: ·)

theorem repl_some {p t : Wd} : ∀ {s s' : Wd}, repl p t s = some s' → ∃ u v, s = u ++ p ++ v ∧ s' = u ++ t ++ v
  | [], s', h => by
    unfold repl at h
    split at h
    · next hp =>
      obtain ⟨v, hv⟩ := List.isPrefixOf_iff_prefix.1 hp
      have h1 := List.append_eq_nil_iff.1 hv
      simp at h
      exact ⟨[], [], by simp [h1.1], by simp [h]⟩
    · cases h
  | c :: s, s', h => by
    unfold repl at h
    split at h
    · next hp =>
      obtain ⟨v, hv⟩ := List.isPrefixOf_iff_prefix.1 hp
      simp only [Option.some.injEq] at h
      refine ⟨[], v, by simpa using hv.symm, ?_⟩
      rw [← h, ← hv, List.drop_left]; simp
    · rw [Option.map_eq_some_iff] at h
      obtain ⟨x, hx, rfl⟩ := h
      obtain ⟨u, v, rfl, rfl⟩ := repl_some hx
      exact ⟨c :: u, v, by simp, by simp⟩

def stepB : List Rl → Wd → Option Wd
  | [], _ => none
  | r :: R, s => match repl r.1 r.2 s with
    | some s' => some s'
    | none => stepB R s

theorem stepB_red : ∀ {R : List Rl} {s s' : Wd}, stepB R s = some s' → Red R s s'
  | [], s, s', h => by cases h
  | r :: R, s, s', h => by
    unfold stepB at h
    split at h
    · next x hx =>
      simp only [Option.some.injEq] at h
      subst h
      obtain ⟨u, v, h1, h2⟩ := repl_some hx
      exact ⟨r, List.mem_cons_self, u, v, h1, h2⟩
    · obtain ⟨r', hr, k⟩ := stepB_red h
      exact ⟨r', List.mem_cons_of_mem _ hr, k⟩

def turnB (R : List Rl) : Nat → Wd → Wd
  | 0, s => s
  | n + 1, s => match stepB R s with
    | some s' => turnB R n s'
    | none => s

theorem turnB_steps (R : List Rl) : ∀ (n : Nat) (s : Wd), Steps R s (turnB R n s)
  | 0, s => Steps.refl _ _
  | n + 1, s => by
    unfold turnB
    split
    · next s' h => exact Steps.head (stepB_red h) (turnB_steps R n s')
    · exact Steps.refl _ _

def irrC (R : List Rl) (s : Wd) : Bool := R.all fun r => !occB r.1 s
theorem irrC_iff (R : List Rl) (s : Wd) : irrC R s = true ↔ Irr R s := by
  unfold irrC Irr
  rw [List.all_eq_true]
  constructor
  · intro h r hr ho
    have := h r hr
    rw [(occB_iff r.1 s).2 ho] at this
    cases this
  · intro h r hr
    cases hb : occB r.1 s with
    | false => rfl
    | true => exact absurd ((occB_iff r.1 s).1 hb) (h r hr)
theorem irrC_eq (R : List Rl) (s : Wd) : irrC R s = irrB R s := by
  have h : irrC R s = true ↔ irrB R s = true := (irrC_iff R s).trans (irrB_iff R s).symm
  cases ha : irrC R s with
  | true => exact (h.1 ha).symm
  | false =>
    cases hb : irrB R s with
    | false => rfl
    | true => rw [h.2 hb] at ha; cases ha

def apartB : List Rl → Bool
  | [] => true
  | a :: R => (R.all fun b => !occB a.1 b.1 && !occB b.1 a.1) && apartB R
theorem apartB_apart : ∀ {R : List Rl}, apartB R = true → Apart R
  | [], _ => List.Pairwise.nil
  | a :: R, h => by
    unfold apartB at h
    rw [Bool.and_eq_true, List.all_eq_true] at h
    unfold Apart
    rw [List.pairwise_cons]
    refine ⟨fun b hb => ?_, apartB_apart h.2⟩
    have := h.1 b hb
    rw [Bool.and_eq_true] at this
    constructor
    · intro ho; rw [(occB_iff _ _).2 ho] at this; cases this.1
    · intro ho; rw [(occB_iff _ _).2 ho] at this; cases this.2

def cpB (R : List Rl) (n : Nat) : Bool := R.all fun a => R.all fun b => (List.range 7).all fun k =>
  k == 0 || decide (a.1.length ≤ k) || decide (b.1.length ≤ k) || a.1.drop (a.1.length - k) != b.1.take k || turnB R n (a.2 ++ b.1.drop k) == turnB R n (a.1.take (a.1.length - k) ++ b.2)

def rulesB (L M : Nat) (R : List Rl) : Bool := R.all fun r => isWord L M r.1 && isWord L M r.2 && decide (fold L r.2 < fold L r.1) && irrC R r.2

theorem rulesB_ok {L M : Nat} {R : List Rl} (h : rulesB L M R = true) : RulesOk L M R ∧ ToIrr R := by
  unfold rulesB at h
  rw [List.all_eq_true] at h
  have k : ∀ r, r ∈ R → isWord L M r.1 = true ∧ isWord L M r.2 = true ∧ fold L r.2 < fold L r.1 ∧ Irr R r.2 := by
    intro r hr
    have := h r hr
    rw [Bool.and_eq_true, Bool.and_eq_true, Bool.and_eq_true, decide_eq_true_eq, irrC_iff] at this
    exact ⟨this.1.1.1, this.1.1.2, this.1.2, this.2⟩
  exact ⟨⟨fun r hr => (k r hr).1, fun r hr => (k r hr).2.1, fun r hr => (k r hr).2.2.1⟩, fun r hr => (k r hr).2.2.2⟩

theorem cpB_cp {L M : Nat} (hL1 : 1 ≤ L) (hL : L ≤ 3) (hM : M ≤ 6) {R : List Rl} {n : Nat} (hR : RulesOk L M R) (h : cpB R n = true) : CP L M R [] (fun _ => False) := by
  intro a b ha hb _ _ p o q e1 e2 n1 n2 n3 hlen
  unfold cpB at h
  rw [List.all_eq_true] at h
  have h1 := h a ha
  rw [List.all_eq_true] at h1
  have h2 := h1 b hb
  rw [List.all_eq_true] at h2
  have hp := List.length_pos_iff.2 n1
  have ho := List.length_pos_iff.2 n2
  have hq := List.length_pos_iff.2 n3
  have hl : p.length + (o.length + q.length) ≤ M := by simpa using hlen
  have h3 := h2 o.length (by rw [List.mem_range]; omega)
  have l1 : a.1.length = p.length + o.length := by rw [e1]; simp
  have l2 : b.1.length = o.length + q.length := by rw [e2]; simp
  have t1 : a.1.take (a.1.length - o.length) = p := by rw [l1, e1]; simp
  have t2 : b.1.drop o.length = q := by rw [e2]; simp
  have t3 : a.1.drop (a.1.length - o.length) = o := by rw [l1, e1]; simp
  have t4 : b.1.take o.length = o := by rw [e2]; simp
  rw [t1, t2, t3, t4] at h3
  have h4 : turnB R n (a.2 ++ q) = turnB R n (p ++ b.2) := by
    simp only [Bool.or_eq_true, beq_iff_eq, decide_eq_true_eq, bne_iff_ne, ne_eq, not_true_eq_false, or_false] at h3
    rcases h3 with ((h3 | h3) | h3) | h3
    · omega
    · omega
    · omega
    · exact h3
  have wa := hR.from_ a ha
  have wb := hR.from_ b hb
  rw [e1] at wa
  rw [e2] at wb
  obtain ⟨op, oo⟩ := (ok_iff2 L _ _).1 (isWord_ok wa)
  obtain ⟨_, oq⟩ := (ok_iff2 L _ _).1 (isWord_ok wb)
  have oa := isWord_ok (hR.to_ a ha)
  have ob := isWord_ok (hR.to_ b hb)
  have la : fold L (a.2 ++ q) < fold L (p ++ o ++ q) := by
    have := fold_within hL [] q (by rfl) oq oa ((ok_iff2 L _ _).2 ⟨op, oo⟩) hL1 (by have := hR.less a ha; rw [e1] at this; exact this)
    simpa using this
  have lb : fold L (p ++ b.2) < fold L (p ++ o ++ q) := by
    have := fold_within hL p [] op (by rfl) ob ((ok_iff2 L _ _).2 ⟨oo, oq⟩) hL1 (by have := hR.less b hb; rw [e2] at this; exact this)
    simpa [List.append_assoc] using this
  have hsub : ∀ r, r ∈ R → r ∈ R ++ [] := fun r hr => List.mem_append_left _ hr
  have c1 := conn_steps hL1 hL hR hsub (lower_lt L (p ++ o ++ q)) [] [] (turnB_steps R n (a.2 ++ q)) (by simpa using And.intro ((ok_iff2 L _ _).2 ⟨oa, oq⟩) (by simpa using la))
  have c2 := conn_steps hL1 hL hR hsub (lower_lt L (p ++ o ++ q)) [] [] (turnB_steps R n (p ++ b.2)) (by simpa using And.intro ((ok_iff2 L _ _).2 ⟨op, ob⟩) (by simpa using lb))
  rw [h4] at c1
  simp only [List.nil_append, List.append_nil] at c1 c2 ⊢
  exact (conn_eqc _ _).trans _ _ _ c1 ((conn_eqc _ _).symm _ _ c2)

def finB (L M : Nat) (said R : List Rl) (n : Nat) : Bool :=
  rulesB L M R && apartB R && cpB R n && said.all fun p => isWord L M p.1 && isWord L M p.2 && turnB R n p.1 == turnB R n p.2

/-- rules that are drawn of what is said, and pass the check. -/
theorem fin_of_check {L M : Nat} (hL1 : 1 ≤ L) (hL : L ≤ 3) (hM : M ≤ 6) {said R : List Rl} {n : Nat} (h : finB L M said R n = true) (hs : ∀ r, r ∈ R → Eqv L M said r.1 r.2) : Fin L M said R ∧ ToIrr R ∧ ∀ p, p ∈ said → isWord L M p.1 = true ∧ isWord L M p.2 = true := by
  unfold finB at h
  rw [Bool.and_eq_true, Bool.and_eq_true, Bool.and_eq_true, List.all_eq_true] at h
  obtain ⟨⟨⟨h1, h2⟩, h3⟩, h4⟩ := h
  obtain ⟨hR, hT⟩ := rulesB_ok h1
  have hw : ∀ p, p ∈ said → isWord L M p.1 = true ∧ isWord L M p.2 = true ∧ turnB R n p.1 = turnB R n p.2 := by
    intro p hp
    have := h4 p hp
    rw [Bool.and_eq_true, Bool.and_eq_true, beq_iff_eq] at this
    exact ⟨this.1.1, this.1.2, this.2⟩
  refine ⟨⟨hR, hs, apartB_apart h2, cpB_cp hL1 hL hM hR h3, fun p hp => ?_⟩, hT, fun p hp => ⟨(hw p hp).1, (hw p hp).2.1⟩⟩
  obtain ⟨w1, w2, e⟩ := hw p hp
  have c1 := conn_steps hL1 hL hR (fun r hr => hr) (lower_word hL) [] [] (turnB_steps R n p.1) (by simpa using w1)
  have c2 := conn_steps hL1 hL hR (fun r hr => hr) (lower_word hL) [] [] (turnB_steps R n p.2) (by simpa using w2)
  rw [e] at c1
  simp only [List.nil_append, List.append_nil] at c1 c2
  exact (conn_eqc _ _).trans _ _ _ c1 ((conn_eqc _ _).symm _ _ c2)

/-- two sets of rules of what is said are one. -/
theorem Fin.mem_uniq {L M : Nat} (hL1 : 1 ≤ L) (hL : L ≤ 3) {said R R' : List Rl} (f : Fin L M said R) (f' : Fin L M said R') (hw : ∀ p, p ∈ said → isWord L M p.1 = true ∧ isWord L M p.2 = true) (hT : ToIrr R) (hT' : ToIrr R') (r : Rl) : r ∈ R ↔ r ∈ R' :=
  (f.theRule hL1 hL hw hT r).trans (f'.theRule hL1 hL hw hT' r).symm
theorem Fin.cnt_uniq {L M : Nat} (hL1 : 1 ≤ L) (hL : L ≤ 3) {said R R' : List Rl} (f : Fin L M said R) (f' : Fin L M said R') (hw : ∀ p, p ∈ said → isWord L M p.1 = true ∧ isWord L M p.2 = true) : cntIrr L M R = cntIrr L M R' := by
  unfold cntIrr
  refine List.countP_congr fun x hx => ?_
  have hxw := (mem_upTo hL M x).1 hx
  rw [irrB_iff, irrB_iff]
  exact (f.irr_least hL1 hL hw hxw).trans (f'.irr_least hL1 hL hw hxw).symm
/-- what the check's rules make of a word is the least. -/
theorem Fin.turn_least {L M : Nat} (hL1 : 1 ≤ L) (hL : L ≤ 3) {said R : List Rl} (f : Fin L M said R) (hw : ∀ p, p ∈ said → isWord L M p.1 = true ∧ isWord L M p.2 = true) {x : Wd} (hx : isWord L M x = true) {n : Nat} (hi : irrC R (turnB R n x) = true) : IsLeast L M said x (turnB R n x) :=
  f.least hL1 hL hw hx ⟨turnB_steps R n x, (irrC_iff _ _).1 hi⟩
def cntC (L M : Nat) (R : List Rl) : Nat := (upTo L M).countP (irrC R)
theorem cntC_eq (L M : Nat) (R : List Rl) : cntC L M R = cntIrr L M R := by
  unfold cntC cntIrr
  exact List.countP_congr fun x _ => by rw [irrC_eq]
end Hw
namespace Hw
set_option linter.unusedVariables false
set_option linter.unusedSimpArgs false
/-! Letters that change places; one letter in rounds. -/
def sr : Nat → List Rl
  | 2 => [([98, 97], [97, 98])]
  | 3 => [([98, 97], [97, 98]), ([99, 97], [97, 99]), ([99, 98], [98, 99])]
  | _ => []

theorem sr_check : ((List.range 3).all fun l => (List.range 5).all fun m => finB (l + 1) (m + 2) (sr (l + 1)) (sr (l + 1)) 10) = true := by decide +kernel

theorem sr_fin {L M : Nat} (hL1 : 1 ≤ L) (hL : L ≤ 3) (hM2 : 2 ≤ M) (hM : M ≤ 6) : Fin L M (sr L) (sr L) ∧ ToIrr (sr L) ∧ ∀ p, p ∈ sr L → isWord L M p.1 = true ∧ isWord L M p.2 = true := by
  have h := sr_check
  rw [List.all_eq_true] at h
  have h1 := h (L - 1) (by rw [List.mem_range]; omega)
  rw [List.all_eq_true] at h1
  have h2 := h1 (M - 2) (by rw [List.mem_range]; omega)
  rw [show L - 1 + 1 = L by omega, show M - 2 + 2 = M by omega] at h2
  exact fin_of_check hL1 hL hM h2 fun r hr => (eqv_clo L M (sr L)).said r hr

def sortW (s : Wd) : Wd := s.filter (· == 97) ++ s.filter (· == 98) ++ s.filter (· == 99)

theorem sort_check : ((List.range 3).all fun l => (upTo (l + 1) 6).all fun s => turnB (sr (l + 1)) 20 s == sortW s && irrC (sr (l + 1)) (sortW s)) = true := by decide +kernel

theorem sort_least {L M : Nat} (hL1 : 1 ≤ L) (hL : L ≤ 3) (hM2 : 2 ≤ M) (hM : M ≤ 6) {s : Wd} (hs : isWord L M s = true) : IsLeast L M (sr L) s (sortW s) := by
  have h := sort_check
  rw [List.all_eq_true] at h
  have h1 := h (L - 1) (by rw [List.mem_range]; omega)
  rw [List.all_eq_true, show L - 1 + 1 = L by omega] at h1
  have hs6 : isWord L 6 s = true := (isWord_iff L 6 s).2 ⟨isWord_ok hs, by have := isWord_len hs; omega⟩
  have h2 := h1 s ((mem_upTo hL 6 s).2 hs6)
  rw [Bool.and_eq_true, beq_iff_eq] at h2
  obtain ⟨f, _, hw⟩ := sr_fin hL1 hL hM2 hM
  have := f.turn_least hL1 hL hw hs (n := 20) (by rw [h2.1]; exact h2.2)
  rw [h2.1] at this
  exact this

/-- how many ways there are to have so many of each. -/
def waysTo (L M : Nat) : Nat := ((List.range (M + 1)).map fun x => ((List.range (M + 1)).map fun y => ((List.range (M + 1)).countP fun z => decide (x + y + z ≤ M) && (decide (1 < L) || y == 0) && (decide (2 < L) || z == 0))).sum).sum

theorem ways_check : ((List.range 3).all fun l => (List.range 5).all fun m => cntC (l + 1) (m + 2) (sr (l + 1)) == waysTo (l + 1) (m + 2)) = true := by decide +kernel

theorem sr_cnt {L M : Nat} (hL1 : 1 ≤ L) (hL : L ≤ 3) (hM2 : 2 ≤ M) (hM : M ≤ 6) : cntIrr L M (sr L) = waysTo L M := by
  have h := ways_check
  rw [List.all_eq_true] at h
  have h1 := h (L - 1) (by rw [List.mem_range]; omega)
  rw [List.all_eq_true] at h1
  have h2 := h1 (M - 2) (by rw [List.mem_range]; omega)
  rw [show L - 1 + 1 = L by omega, show M - 2 + 2 = M by omega, beq_iff_eq, cntC_eq] at h2
  exact h2

/-! one letter -/
def pw (n : Nat) : Wd := List.replicate n 97
theorem pw_word {M n : Nat} (h : n ≤ M) : isWord 1 M (pw n) = true := by
  rw [isWord_iff]
  exact ⟨by simp [pw, okc], by simpa [pw] using h⟩
theorem pw_add (m n : Nat) : pw (m + n) = pw m ++ pw n := by simp [pw]

def said1 (m n : Nat) : List Rl := [(pw m, []), ([], pw n)]

theorem pw_sub {M : Nat} {said : List Rl} {i j : Nat} (hij : i ≤ j) (hj : j ≤ M) (h1 : Eqv 1 M said (pw i) []) (h2 : Eqv 1 M said (pw j) []) : Eqv 1 M said (pw (j - i)) [] := by
  have C := eqv_clo 1 M said
  have e : pw j = pw (j - i) ++ pw i := by rw [← pw_add]; congr 1; omega
  have k := C.within (pw (j - i)) (pw i) [] [] h1 (by rw [List.append_nil, ← e]; exact pw_word hj) (by rw [List.append_nil, List.append_nil]; exact pw_word (by omega))
  rw [List.append_nil, List.append_nil, List.append_nil, ← e] at k
  exact C.next _ _ _ (C.back _ _ k) h2

theorem pw_gcd {M : Nat} {said : List Rl} : ∀ (N i j : Nat), i + j ≤ N → i ≤ M → j ≤ M → Eqv 1 M said (pw i) [] → Eqv 1 M said (pw j) [] → Eqv 1 M said (pw (Nat.gcd i j)) []
  | 0, i, j, h, hi, hj, h1, h2 => by
    have : i = 0 := by omega
    subst this
    simpa using h2
  | N + 1, i, j, h, hi, hj, h1, h2 => by
    by_cases h0 : i = 0
    · subst h0; simpa using h2
    · by_cases h0' : j = 0
      · subst h0'; simpa using h1
      · by_cases hij : i ≤ j
        · have := pw_gcd N i (j - i) (by omega) hi (by omega) h1 (pw_sub hij hj h1 h2)
          rwa [Nat.gcd_sub_self_right hij] at this
        · have := pw_gcd N (i - j) j (by omega) (by omega) hj (pw_sub (by omega) hi h2 h1) h2
          rwa [Nat.gcd_sub_self_left (by omega)] at this

theorem said1_gcd {m n : Nat} (hm : m ≤ 6) (hn : n ≤ 6) : Eqv 1 6 (said1 m n) (pw (Nat.gcd m n)) [] := by
  have C := eqv_clo 1 6 (said1 m n)
  refine pw_gcd (m + n) m n (Nat.le_refl _) hm hn ?_ ?_
  · exact C.said (pw m, []) (by simp [said1])
  · exact C.back _ _ (C.said ([], pw n) (by simp [said1]))

theorem said1_check : ((List.range 6).all fun m => (List.range 6).all fun n => finB 1 6 (said1 (m + 1) (n + 1)) [(pw (Nat.gcd (m + 1) (n + 1)), [])] 10 && cntC 1 6 [(pw (Nat.gcd (m + 1) (n + 1)), [])] == Nat.gcd (m + 1) (n + 1) &&
    (List.range 7).all fun k => turnB [(pw (Nat.gcd (m + 1) (n + 1)), [])] 10 (pw k) == pw (k % Nat.gcd (m + 1) (n + 1)) && irrC [(pw (Nat.gcd (m + 1) (n + 1)), [])] (pw (k % Nat.gcd (m + 1) (n + 1)))) = true := by decide +kernel

theorem said1_fin {m n : Nat} (h1 : 1 ≤ m) (hm : m ≤ 6) (h2 : 1 ≤ n) (hn : n ≤ 6) : (Fin 1 6 (said1 m n) [(pw (Nat.gcd m n), [])] ∧ ToIrr [(pw (Nat.gcd m n), [])] ∧ ∀ p, p ∈ said1 m n → isWord 1 6 p.1 = true ∧ isWord 1 6 p.2 = true) ∧
    cntIrr 1 6 [(pw (Nat.gcd m n), [])] = Nat.gcd m n ∧ ∀ k, k ≤ 6 → IsLeast 1 6 (said1 m n) (pw k) (pw (k % Nat.gcd m n)) := by
  have h := said1_check
  rw [List.all_eq_true] at h
  have k1 := h (m - 1) (by rw [List.mem_range]; omega)
  rw [List.all_eq_true] at k1
  have k2 := k1 (n - 1) (by rw [List.mem_range]; omega)
  rw [show m - 1 + 1 = m by omega, show n - 1 + 1 = n by omega, Bool.and_eq_true, Bool.and_eq_true, beq_iff_eq, List.all_eq_true, cntC_eq] at k2
  obtain ⟨⟨a1, a2⟩, a3⟩ := k2
  have hf := fin_of_check (by omega) (by omega) (by omega) a1 (fun r hr => by rw [List.mem_singleton] at hr; subst hr; exact said1_gcd hm hn)
  refine ⟨hf, a2, fun k hk => ?_⟩
  have := a3 k (by rw [List.mem_range]; omega)
  rw [Bool.and_eq_true, beq_iff_eq] at this
  have h3 := hf.1.turn_least (by omega) (by omega) hf.2.2 (pw_word hk) (n := 10) (by rw [this.1]; exact this.2)
  rw [this.1] at h3
  exact h3

def said2 (f t : Nat) : List Rl := [(pw t, pw f)]
/-- so often less a round, till less than that. -/
def round2 (f t : Nat) : Nat → Nat → Nat
  | 0, k => k
  | n + 1, k => if t ≤ k then round2 f t n (k - (t - f)) else k

theorem said2_check : ((List.range 6).all fun f => (List.range 7).all fun t => decide (t ≤ f) || (finB 1 6 (said2 f t) (said2 f t) 10 && cntC 1 6 (said2 f t) == t &&
    (List.range 7).all fun k => turnB (said2 f t) 10 (pw k) == pw (round2 f t 7 k) && irrC (said2 f t) (pw (round2 f t 7 k)))) = true := by decide +kernel

theorem said2_fin {f t : Nat} (hf : f < t) (ht : t ≤ 6) : (Fin 1 6 (said2 f t) (said2 f t) ∧ ToIrr (said2 f t) ∧ ∀ p, p ∈ said2 f t → isWord 1 6 p.1 = true ∧ isWord 1 6 p.2 = true) ∧
    cntIrr 1 6 (said2 f t) = t ∧ ∀ k, k ≤ 6 → IsLeast 1 6 (said2 f t) (pw k) (pw (round2 f t 7 k)) := by
  have h := said2_check
  rw [List.all_eq_true] at h
  have k1 := h f (by rw [List.mem_range]; omega)
  rw [List.all_eq_true] at k1
  have k2 := k1 t (by rw [List.mem_range]; omega)
  rw [Bool.or_eq_true, decide_eq_true_eq] at k2
  have k2 := k2.resolve_left (by omega)
  rw [Bool.and_eq_true, Bool.and_eq_true, beq_iff_eq, List.all_eq_true, cntC_eq] at k2
  obtain ⟨⟨a1, a2⟩, a3⟩ := k2
  have hfin := fin_of_check (by omega) (by omega) (by omega) a1 (fun r hr => (eqv_clo 1 6 (said2 f t)).said r hr)
  refine ⟨hfin, a2, fun k hk => ?_⟩
  have := a3 k (by rw [List.mem_range]; omega)
  rw [Bool.and_eq_true, beq_iff_eq] at this
  have h3 := hfin.1.turn_least (by omega) (by omega) hfin.2.2 (pw_word hk) (n := 10) (by rw [this.1]; exact this.2)
  rw [this.1] at h3
  exact h3

/-! the document's first example -/
theorem first_fin : (Fin 2 4 (sr 2) (sr 2) ∧ ToIrr (sr 2) ∧ ∀ p, p ∈ sr 2 → isWord 2 4 p.1 = true ∧ isWord 2 4 p.2 = true) ∧ cntIrr 2 4 (sr 2) = 15 ∧ IsLeast 2 4 (sr 2) [98, 97, 98, 97] [97, 97, 98, 98] :=
  ⟨sr_fin (by omega) (by omega) (by omega) (by omega), by rw [sr_cnt (by omega) (by omega) (by omega) (by omega)]; decide +kernel, by have := sort_least (L := 2) (M := 4) (by omega) (by omega) (by omega) (by omega) (s := [98, 97, 98, 97]) (by decide +kernel); exact this⟩
end Hw
