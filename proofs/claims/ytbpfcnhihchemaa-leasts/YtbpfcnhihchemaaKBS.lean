import Derived.Test.YtbpfcnhihchemaaKB
import Derived.Lib.IndexMore
namespace Hw
set_option linter.unusedVariables false
set_option linter.unusedSimpArgs false
open Go (Lib.index Lib.contains Lib.occAt)

theorem occAt_split {s p : Wd} {i : Nat} (h : Go.Lib.occAt s p i = true) : s = s.take i ++ p ++ s.drop (i + p.length) := by
  unfold Go.Lib.occAt at h
  obtain ⟨t, ht⟩ := List.isPrefixOf_iff_prefix.1 h
  have h1 : s = s.take i ++ s.drop i := (List.take_append_drop i s).symm
  have h2 : s.drop (i + p.length) = t := by rw [← List.drop_drop, ← ht, List.drop_left]
  rw [h2, List.append_assoc, ht]; exact h1

theorem index_cases (s p : Wd) : (Go.Lib.index s p = -1 ∧ ∀ i, i ≤ s.length → Go.Lib.occAt s p i = false) ∨ ∃ i : Nat, i ≤ s.length ∧ Go.Lib.index s p = i ∧ Go.Lib.occAt s p i = true := by
  by_cases h : ∃ i, i ≤ s.length ∧ Go.Lib.occAt s p i = true
  · right
    have : ∀ n, (∃ i, i ≤ n ∧ i ≤ s.length ∧ Go.Lib.occAt s p i = true) → ∃ i, i ≤ s.length ∧ Go.Lib.occAt s p i = true ∧ ∀ j, j < i → Go.Lib.occAt s p j = false := by
      intro n
      induction n with
      | zero => rintro ⟨i, h1, h2, h3⟩; exact ⟨i, h2, h3, fun j hj => by omega⟩
      | succ n ih =>
        rintro ⟨i, h1, h2, h3⟩
        by_cases hc : ∃ i, i ≤ n ∧ i ≤ s.length ∧ Go.Lib.occAt s p i = true
        · exact ih hc
        · refine ⟨i, h2, h3, fun j hj => ?_⟩
          cases hb : Go.Lib.occAt s p j with
          | false => rfl
          | true => exact absurd ⟨j, by omega, by omega, hb⟩ hc
    obtain ⟨i, hi, ho⟩ := h
    obtain ⟨k, hk, hko, hkn⟩ := this i ⟨i, Nat.le_refl _, hi, ho⟩
    exact ⟨k, hk, Go.Lib.index_first hk hko hkn, hko⟩
  · left
    have hn : ∀ i, i ≤ s.length → Go.Lib.occAt s p i = false := by
      intro i hi
      cases hb : Go.Lib.occAt s p i with
      | false => rfl
      | true => exact absurd ⟨i, hi, hb⟩ h
    exact ⟨Go.Lib.index_none hn, hn⟩

theorem occAt_of_split {u p v : Wd} : Go.Lib.occAt (u ++ p ++ v) p u.length = true := by
  unfold Go.Lib.occAt
  rw [List.append_assoc, List.drop_left]
  exact List.isPrefixOf_iff_prefix.2 (List.prefix_append p v)

theorem contains_iff (s p : Wd) : Go.Lib.contains s p = true ↔ Occ p s := by
  unfold Go.Lib.contains
  rw [decide_eq_true_eq]
  constructor
  · intro h
    rcases index_cases s p with ⟨h1, _⟩ | ⟨i, _, _, ho⟩
    · omega
    · exact ⟨s.take i, s.drop (i + p.length), occAt_split ho⟩
  · rintro ⟨u, v, rfl⟩
    rcases index_cases (u ++ p ++ v) p with ⟨_, hn⟩ | ⟨i, _, h2, _⟩
    · have := hn u.length (by simp)
      rw [occAt_of_split] at this; cases this
    · omega

def irrB (R : List Rl) (x : Wd) : Bool := R.all fun r => !Go.Lib.contains x r.1
theorem irrB_iff (R : List Rl) (x : Wd) : irrB R x = true ↔ Irr R x := by
  unfold irrB Irr
  rw [List.all_eq_true]
  constructor
  · intro h r hr ho
    have := h r hr
    rw [(contains_iff x r.1).2 ho] at this
    cases this
  · intro h r hr
    cases hb : Go.Lib.contains x r.1 with
    | false => rfl
    | true => exact absurd ((contains_iff x r.1).1 hb) (h r hr)

theorem irr_fst {R R' : List Rl} (h : R'.map Prod.fst = R.map Prod.fst) {x : Wd} (hi : Irr R x) : Irr R' x := by
  intro r hr
  have : r.1 ∈ R'.map Prod.fst := List.mem_map_of_mem hr
  rw [h, List.mem_map] at this
  obtain ⟨r0, h0, e⟩ := this
  rw [← e]; exact hi r0 h0

def cntIrr (L M : Nat) (R : List Rl) : Nat := (upTo L M).countP (irrB R)

theorem irrB_fst {R R' : List Rl} (h : R'.map Prod.fst = R.map Prod.fst) (x : Wd) : irrB R' x = irrB R x := by
  have h1 : irrB R' x = true ↔ irrB R x = true := by rw [irrB_iff, irrB_iff]; exact ⟨irr_fst h.symm, irr_fst h⟩
  cases ha : irrB R' x with
  | true => exact (h1.1 ha).symm
  | false =>
    cases hb : irrB R x with
    | false => rfl
    | true => rw [h1.2 hb] at ha; cases ha

theorem cntIrr_fst {L M : Nat} {R R' : List Rl} (h : R'.map Prod.fst = R.map Prod.fst) : cntIrr L M R' = cntIrr L M R := by
  unfold cntIrr
  exact List.countP_congr fun x _ => by rw [irrB_fst h]

/-! the search: rules, and pairs that wait -/
structure Inv (L M : Nat) (said R E : List Rl) (ex : Wd → Prop) : Prop where
  rules : RulesOk L M R
  sound : ∀ r, r ∈ R → Eqv L M said r.1 r.2
  apart : Apart R
  pend : ∀ p, p ∈ E → isWord L M p.1 = true ∧ isWord L M p.2 = true ∧ Eqv L M said p.1 p.2
  cp : CP L M R E ex
  said : ∀ p, p ∈ said → Conn (fun x => isWord L M x = true) (R ++ E) p.1 p.2

theorem CP.move {L M : Nat} {R R' E E' : List Rl} {ex ex' : Wd → Prop} (h : CP L M R E ex) (hR : ∀ a, a ∈ R' → ¬ ex' a.1 → a ∈ R ∧ ¬ ex a.1)
    (hc : ∀ B, Lower L B → ∀ x y, Conn B (R ++ E) x y → Conn B (R' ++ E') x y) : CP L M R' E' ex' := by
  intro a b ha hb hea heb p o q e1 e2 h1 h2 h3 h4
  exact hc _ (lower_lt L _) _ _ (h a b (hR a ha hea).1 (hR b hb heb).1 (hR a ha hea).2 (hR b hb heb).2 p o q e1 e2 h1 h2 h3 h4)

theorem Inv.start {L M : Nat} (hL : L ≤ 3) {said R : List Rl} (f : Fin L M said R) {l r : Wd} (hl : isWord L M l = true) (hr : isWord L M r = true) : Inv L M (said ++ [(l, r)]) R [(l, r)] (fun _ => False) where
  rules := f.rules
  sound r hr := eqv_more (fun p hp => List.mem_append_left _ hp) (f.sound r hr)
  apart := f.apart
  pend p hp := by
    rw [List.mem_singleton] at hp; subst hp
    exact ⟨hl, hr, (eqv_clo L M _).said (l, r) (by simp)⟩
  cp := f.cp.move (fun a ha hn => ⟨ha, hn⟩) (fun B _ x y h => h.mono (fun p hp => by simpa using Or.inl (by simpa using hp)))
  said p hp := by
    rcases List.mem_append.1 hp with hp | hp
    · exact (f.said p hp).mono fun p hp => List.mem_append_left _ hp
    · rw [List.mem_singleton] at hp; subst hp
      have := (conn_eqc (fun x => isWord L M x = true) (R ++ [(l, r)])).step (l, r) (by simp) [] [] (by simpa using hl) (by simpa using hr)
      simpa using this

theorem Inv.fin {L M : Nat} {said R : List Rl} (h : Inv L M said R [] (fun _ => False)) : Fin L M said R :=
  ⟨h.rules, h.sound, h.apart, h.cp, fun p hp => by have := h.said p hp; rwa [List.append_nil] at this⟩

/-- a pair that waited is looked at: both words come to one. -/
theorem Inv.same {L M : Nat} (hL1 : 1 ≤ L) (hL : L ≤ 3) {said R E E' : List Rl} (h : Inv L M said R E (fun _ => False)) {p : Rl} (h1 : ∀ e, e ∈ E → e = p ∨ e ∈ E') (h2 : ∀ e, e ∈ E' → e ∈ E) {n : Wd} (hn1 : Steps R p.1 n) (hn2 : Steps R p.2 n) :
    Inv L M said R E' (fun _ => False) := by
  have conv : ∀ B, Lower L B → ∀ x y, Conn B (R ++ E) x y → Conn B (R ++ E') x y := by
    intro B hB x y hc
    refine hc.sub fun q hq u v b1 b2 => ?_
    rcases List.mem_append.1 hq with hq | hq
    · exact (conn_eqc B _).step q (List.mem_append_left _ hq) u v b1 b2
    · rcases h1 q hq with rfl | hq
      · exact (conn_eqc B _).trans _ _ _ (conn_steps hL1 hL h.rules (fun r hr => List.mem_append_left _ hr) hB u v hn1 b1)
          ((conn_eqc B _).symm _ _ (conn_steps hL1 hL h.rules (fun r hr => List.mem_append_left _ hr) hB u v hn2 b2))
      · exact (conn_eqc B _).step q (List.mem_append_right _ hq) u v b1 b2
  exact ⟨h.rules, h.sound, h.apart, fun e he => h.pend e (h2 e he), h.cp.move (fun a ha hn => ⟨ha, hn⟩) conv, fun q hq => conv _ (lower_word hL) _ _ (h.said q hq)⟩

/-- a new rule; what stands in the way waits again. -/
theorem Inv.add {L M : Nat} (hL1 : 1 ≤ L) (hL : L ≤ 3) {said R E E1 R1 : List Rl} (h : Inv L M said R E (fun _ => False)) {p : Rl} (hp : p ∈ E) {l r X t : Wd} (hl : NF R p.1 l) (hr : NF R p.2 r)
    (hX : (X = l ∧ t = r) ∨ (X = r ∧ t = l)) (hlt : fold L t < fold L X)
    (hR1 : ∀ a, a ∈ R1 ↔ a ∈ R ∧ ¬ Occ X a.1) (hap : Apart R1)
    (hE1 : ∀ e, e ∈ E → e = p ∨ e ∈ E1) (hE2 : ∀ e, e ∈ E1 → e ∈ E ∨ e ∈ R) (hE3 : ∀ a, a ∈ R → Occ X a.1 → a ∈ E1) :
    Inv L M said (R1 ++ [(X, t)]) E1 (fun x => x = X) ∧ Irr (R1 ++ [(X, t)]) t ∧ Irr R X := by
  obtain ⟨hw1, hw2, heqv⟩ := h.pend p hp
  have C := eqv_clo L M said
  have okl := hl.1.less hL1 hL h.rules (isWord_ok hw1)
  have okr := hr.1.less hL1 hL h.rules (isWord_ok hw2)
  have wl := isWord_of_le hL okl.1 hw1 okl.2
  have wr := isWord_of_le hL okr.1 hw2 okr.2
  have el := hl.1.eqv hL1 hL h.rules h.sound hw1
  have er := hr.1.eqv hL1 hL h.rules h.sound hw2
  have elr : Eqv L M said l r := C.next _ _ _ (C.back _ _ el) (C.next _ _ _ heqv er)
  have hXw : isWord L M X = true := by rcases hX with ⟨rfl, _⟩ | ⟨rfl, _⟩ <;> assumption
  have htw : isWord L M t = true := by rcases hX with ⟨_, rfl⟩ | ⟨_, rfl⟩ <;> assumption
  have hXi : Irr R X := by rcases hX with ⟨rfl, _⟩ | ⟨rfl, _⟩; exact hl.2; exact hr.2
  have hti : Irr R t := by rcases hX with ⟨_, rfl⟩ | ⟨_, rfl⟩; exact hr.2; exact hl.2
  have hXt : Eqv L M said X t := by rcases hX with ⟨rfl, rfl⟩ | ⟨rfl, rfl⟩; exact elr; exact C.back _ _ elr
  have hrules : RulesOk L M (R1 ++ [(X, t)]) := by
    refine ⟨?_, ?_, ?_⟩ <;> intro a ha <;> rcases List.mem_append.1 ha with ha | ha
    · exact h.rules.from_ a ((hR1 a).1 ha).1
    · rw [List.mem_singleton] at ha; subst ha; exact hXw
    · exact h.rules.to_ a ((hR1 a).1 ha).1
    · rw [List.mem_singleton] at ha; subst ha; exact htw
    · exact h.rules.less a ((hR1 a).1 ha).1
    · rw [List.mem_singleton] at ha; subst ha; exact hlt
  have hsub : ∀ a, a ∈ R → a ∈ (R1 ++ [(X, t)]) ++ E1 := by
    intro a ha
    by_cases ho : Occ X a.1
    · exact List.mem_append_right _ (hE3 a ha ho)
    · exact List.mem_append_left _ (List.mem_append_left _ ((hR1 a).2 ⟨ha, ho⟩))
  have conv : ∀ B, Lower L B → ∀ x y, Conn B (R ++ E) x y → Conn B ((R1 ++ [(X, t)]) ++ E1) x y := by
    intro B hB x y hc
    refine hc.sub fun q hq u v b1 b2 => ?_
    rcases List.mem_append.1 hq with hq | hq
    · exact (conn_eqc B _).step q (hsub q hq) u v b1 b2
    · rcases hE1 q hq with rfl | hq
      · have c1 := conn_steps hL1 hL h.rules hsub hB u v hl.1 b1
        have c2 := conn_steps hL1 hL h.rules hsub hB u v hr.1 b2
        obtain ⟨ou, oq, ov⟩ := (ok_iff3 L _ _ _).1 (hB.1 _ b1)
        obtain ⟨_, oq2, _⟩ := (ok_iff3 L _ _ _).1 (hB.1 _ b2)
        have bl : B (u ++ l ++ v) := hB.2 _ _ b1 ((ok_iff3 L _ _ _).2 ⟨ou, okl.1, ov⟩) (fold_within_le hL1 hL u v ou ov okl.1 oq okl.2)
        have br : B (u ++ r ++ v) := hB.2 _ _ b2 ((ok_iff3 L _ _ _).2 ⟨ou, okr.1, ov⟩) (fold_within_le hL1 hL u v ou ov okr.1 oq2 okr.2)
        have hmem : (X, t) ∈ (R1 ++ [(X, t)]) ++ E1 := by simp
        have c3 : Conn B ((R1 ++ [(X, t)]) ++ E1) (u ++ l ++ v) (u ++ r ++ v) := by
          rcases hX with ⟨rfl, rfl⟩ | ⟨rfl, rfl⟩
          · exact (conn_eqc B _).step (X, t) hmem u v bl br
          · exact (conn_eqc B _).symm _ _ ((conn_eqc B _).step (X, t) hmem u v br bl)
        exact (conn_eqc B _).trans _ _ _ c1 ((conn_eqc B _).trans _ _ _ c3 ((conn_eqc B _).symm _ _ c2))
      · exact (conn_eqc B _).step q (List.mem_append_right _ hq) u v b1 b2
  have htX : ¬ Occ X t := by
    rintro ⟨u, v, e⟩
    have hX' := (isWord_iff L M X).1 hXw
    have ht' := (isWord_iff L M t).1 htw
    have hle : X.length ≤ t.length := by rw [e]; simp; omega
    have hle2 := length_le_of_fold hL ht'.1 hX'.1 (Nat.le_of_lt hlt)
    have hl := congrArg List.length e
    simp at hl
    have hu : u = [] := List.length_eq_zero_iff.1 (by omega)
    have hv : v = [] := List.length_eq_zero_iff.1 (by omega)
    subst hu hv
    simp at e
    rw [e] at hlt; omega
  refine ⟨⟨hrules, ?_, ?_, ?_, ?_, ?_⟩, ?_, hXi⟩
  · intro a ha
    rcases List.mem_append.1 ha with ha | ha
    · exact h.sound a ((hR1 a).1 ha).1
    · rw [List.mem_singleton] at ha; subst ha; exact hXt
  · unfold Apart
    rw [List.pairwise_append]
    refine ⟨hap, List.pairwise_singleton _ _, ?_⟩
    intro a ha b hb
    rw [List.mem_singleton] at hb; subst hb
    exact ⟨hXi a ((hR1 a).1 ha).1, ((hR1 a).1 ha).2⟩
  · intro e he
    rcases hE2 e he with he | he
    · exact h.pend e he
    · exact ⟨h.rules.from_ e he, h.rules.to_ e he, h.sound e he⟩
  · refine h.cp.move (fun a ha hn => ?_) conv
    rcases List.mem_append.1 ha with ha | ha
    · exact ⟨((hR1 a).1 ha).1, fun h => h⟩
    · rw [List.mem_singleton] at ha; subst ha; exact absurd rfl hn
  · exact fun q hq => conv _ (lower_word hL) _ _ (h.said q hq)
  · intro a ha
    rcases List.mem_append.1 ha with ha | ha
    · exact hti a ((hR1 a).1 ha).1
    · rw [List.mem_singleton] at ha; subst ha; exact htX

theorem fold_occ {L : Nat} (hL1 : 1 ≤ L) (hL : L ≤ 3) {u f v : Wd} (h : Ok L (u ++ f ++ v)) : fold L f ≤ fold L (u ++ f ++ v) := by
  obtain ⟨h1, h2, h3⟩ := (ok_iff3 L _ _ _).1 h
  by_cases he : u ++ f ++ v = f
  · rw [he]; exact Nat.le_refl _
  · refine Nat.le_of_lt (fold_lt_of_length hL h2 h ?_)
    have : u ≠ [] ∨ v ≠ [] := by
      by_cases hu : u = []
      · right; intro hv; subst hu hv; simp at he
      · exact Or.inl hu
    simp
    rcases this with h | h
    · have := List.length_pos_iff.2 h; omega
    · have := List.length_pos_iff.2 h; omega

/-- the less word of a rule is made less. -/
theorem Inv.reduce {L M : Nat} (hL1 : 1 ≤ L) (hL : L ≤ 3) {said A C E : List Rl} {f t t' : Wd} {ex : Wd → Prop} (h : Inv L M said (A ++ (f, t) :: C) E ex) (hs : Steps (A ++ (f, t) :: C) t t') : Inv L M said (A ++ (f, t') :: C) E ex := by
  have hmem : (f, t) ∈ A ++ (f, t) :: C := by simp
  have hft := h.rules.less _ hmem
  have htw := h.rules.to_ _ hmem
  have hfw := h.rules.from_ _ hmem
  have hsub0 : ∀ a, a ∈ A ++ C → a ∈ A ++ (f, t) :: C := by
    intro a ha; rcases List.mem_append.1 ha with ha | ha
    · exact List.mem_append_left _ ha
    · exact List.mem_append_right _ (List.mem_cons_of_mem _ ha)
  have hR0 : RulesOk L M (A ++ C) := ⟨fun r hr => h.rules.from_ r (hsub0 r hr), fun r hr => h.rules.to_ r (hsub0 r hr), fun r hr => h.rules.less r (hsub0 r hr)⟩
  have hs' : Steps (A ++ C) t t' :=
    hs (fun a b => Ok L a → fold L a < fold L f → Steps (A ++ C) a b) (fun a _ _ => Steps.refl _ _)
      (fun a b c hr ih ha hlt => by
        have hl := hr.less hL1 hL h.rules ha
        refine Steps.head ?_ (ih hl.1 (by omega))
        obtain ⟨r, hr', u, v, rfl, rfl⟩ := hr
        refine ⟨r, ?_, u, v, rfl, rfl⟩
        rcases List.mem_append.1 hr' with hr' | hr'
        · exact List.mem_append_left _ hr'
        · rcases List.mem_cons.1 hr' with rfl | hr'
          · have := fold_occ hL1 hL ha; exact absurd hlt (by simp at *; omega)
          · exact List.mem_append_right _ hr') (isWord_ok htw) hft
  have hl := hs'.less hL1 hL hR0 (isWord_ok htw)
  have htw' := isWord_of_le hL hl.1 htw hl.2
  have hmem' : (f, t') ∈ A ++ (f, t') :: C := by simp
  have hsub : ∀ a, a ∈ A ++ C → a ∈ (A ++ (f, t') :: C) ++ E := by
    intro a ha; refine List.mem_append_left _ ?_; rcases List.mem_append.1 ha with ha | ha
    · exact List.mem_append_left _ ha
    · exact List.mem_append_right _ (List.mem_cons_of_mem _ ha)
  have cases_ : ∀ a, a ∈ A ++ (f, t') :: C → a = (f, t') ∨ a ∈ A ++ C := by
    intro a ha; rcases List.mem_append.1 ha with ha | ha
    · exact Or.inr (List.mem_append_left _ ha)
    · rcases List.mem_cons.1 ha with rfl | ha
      · exact Or.inl rfl
      · exact Or.inr (List.mem_append_right _ ha)
  have conv : ∀ B, Lower L B → ∀ x y, Conn B ((A ++ (f, t) :: C) ++ E) x y → Conn B ((A ++ (f, t') :: C) ++ E) x y := by
    intro B hB x y hc
    refine hc.sub fun q hq u v b1 b2 => ?_
    rcases List.mem_append.1 hq with hq | hq
    · rcases List.mem_append.1 hq with hq | hq
      · exact (conn_eqc B _).step q (hsub q (List.mem_append_left _ hq)) u v b1 b2
      · rcases List.mem_cons.1 hq with rfl | hq
        · obtain ⟨ou, oq, ov⟩ := (ok_iff3 L _ _ _).1 (hB.1 _ b2)
          have b3 : B (u ++ t' ++ v) := hB.2 _ _ b2 ((ok_iff3 L _ _ _).2 ⟨ou, hl.1, ov⟩) (fold_within_le hL1 hL u v ou ov hl.1 oq hl.2)
          exact (conn_eqc B _).trans _ _ _ ((conn_eqc B _).step (f, t') (List.mem_append_left _ hmem') u v b1 b3) ((conn_eqc B _).symm _ _ (conn_steps hL1 hL hR0 hsub hB u v hs' b2))
        · exact (conn_eqc B _).step q (hsub q (List.mem_append_right _ hq)) u v b1 b2
    · exact (conn_eqc B _).step q (List.mem_append_right _ hq) u v b1 b2
  have hte : Eqv L M said t t' := hs'.eqv hL1 hL hR0 (fun r hr => h.sound r (hsub0 r hr)) htw
  refine ⟨⟨?_, ?_, ?_⟩, ?_, ?_, h.pend, ?_, fun q hq => conv _ (lower_word hL) _ _ (h.said q hq)⟩
  · intro a ha; rcases cases_ a ha with rfl | ha
    · exact hfw
    · exact hR0.from_ a ha
  · intro a ha; rcases cases_ a ha with rfl | ha
    · exact htw'
    · exact hR0.to_ a ha
  · intro a ha; rcases cases_ a ha with rfl | ha
    · show fold L t' < fold L f
      exact Nat.lt_of_le_of_lt hl.2 hft
    · exact hR0.less a ha
  · intro a ha; rcases cases_ a ha with rfl | ha
    · exact (eqv_clo L M said).next _ _ _ (h.sound (f, t) hmem) hte
    · exact h.sound a (hsub0 a ha)
  · have := h.apart
    unfold Apart at this ⊢
    rw [List.pairwise_append, List.pairwise_cons] at this ⊢
    obtain ⟨p1, ⟨p2, p3⟩, p4⟩ := this
    refine ⟨p1, ⟨p2, p3⟩, fun a ha b hb => ?_⟩
    rcases List.mem_cons.1 hb with rfl | hb
    · exact p4 a ha (f, t) List.mem_cons_self
    · exact p4 a ha b (List.mem_cons_of_mem _ hb)
  · intro a b ha hb hea heb p o q e1 e2 n1 n2 n3 hlen
    -- the rules that stood there before
    have old : ∀ a, a ∈ A ++ (f, t') :: C → ∃ a0, a0 ∈ A ++ (f, t) :: C ∧ a0.1 = a.1 ∧ Steps (A ++ C) a0.2 a.2 := by
      intro a ha; rcases cases_ a ha with rfl | ha
      · exact ⟨(f, t), hmem, rfl, hs'⟩
      · exact ⟨a, hsub0 a ha, rfl, Steps.refl _ _⟩
    obtain ⟨a0, ha0, ea, sa⟩ := old a ha
    obtain ⟨b0, hb0, eb, sb⟩ := old b hb
    have hc := conv _ (lower_lt L (p ++ o ++ q)) _ _ (h.cp a0 b0 ha0 hb0 (by rw [ea]; exact hea) (by rw [eb]; exact heb) p o q (by rw [ea]; exact e1) (by rw [eb]; exact e2) n1 n2 n3 hlen)
    have wa := h.rules.from_ a0 ha0
    have wb := h.rules.from_ b0 hb0
    rw [ea, e1] at wa
    rw [eb, e2] at wb
    obtain ⟨op, oo⟩ := (ok_iff2 L _ _).1 (isWord_ok wa)
    obtain ⟨_, oq⟩ := (ok_iff2 L _ _).1 (isWord_ok wb)
    have oa := isWord_ok (h.rules.to_ a0 ha0)
    have ob := isWord_ok (h.rules.to_ b0 hb0)
    have la : fold L (a0.2 ++ q) < fold L (p ++ o ++ q) := by
      have := fold_within hL [] q (by rfl) oq oa ((ok_iff2 L _ _).2 ⟨op, oo⟩) hL1 (by have := h.rules.less a0 ha0; rw [ea, e1] at this; exact this)
      simpa using this
    have lb : fold L (p ++ b0.2) < fold L (p ++ o ++ q) := by
      have := fold_within hL p [] op (by rfl) ob ((ok_iff2 L _ _).2 ⟨oo, oq⟩) hL1 (by have := h.rules.less b0 hb0; rw [eb, e2] at this; exact this)
      simpa [List.append_assoc] using this
    have c1 := conn_steps hL1 hL hR0 hsub (lower_lt L (p ++ o ++ q)) [] q sa (by rw [List.nil_append]; exact ⟨(ok_iff2 L _ _).2 ⟨oa, oq⟩, la⟩)
    have c2 := conn_steps hL1 hL hR0 hsub (lower_lt L (p ++ o ++ q)) p [] sb (by rw [List.append_nil]; exact ⟨(ok_iff2 L _ _).2 ⟨op, ob⟩, lb⟩)
    simp only [List.nil_append, List.append_nil] at c1 c2
    exact (conn_eqc _ _).trans _ _ _ ((conn_eqc _ _).symm _ _ c1) ((conn_eqc _ _).trans _ _ _ hc c2)

/-- what two rules make of one word waits too. -/
theorem Inv.cross {L M : Nat} (hL1 : 1 ≤ L) (hL : L ≤ 3) {said R E E' : List Rl} {X : Wd} (h : Inv L M said R E (fun x => x = X)) (h1 : ∀ e, e ∈ E → e ∈ E')
    (h2 : ∀ e, e ∈ E' → e ∈ E ∨ ∃ a b, a ∈ R ∧ b ∈ R ∧ ∃ p o q, a.1 = p ++ o ∧ b.1 = o ++ q ∧ (p ++ o ++ q).length ≤ M ∧ e = (a.2 ++ q, p ++ b.2))
    (h3 : ∀ a b, a ∈ R → b ∈ R → (a.1 = X ∨ b.1 = X) → ∀ p o q, a.1 = p ++ o → b.1 = o ++ q → p ≠ [] → o ≠ [] → q ≠ [] → (p ++ o ++ q).length ≤ M → (a.2 ++ q, p ++ b.2) ∈ E') :
    Inv L M said R E' (fun _ => False) := by
  have C := eqv_clo L M said
  have conv : ∀ B, Lower L B → ∀ x y, Conn B (R ++ E) x y → Conn B (R ++ E') x y := by
    intro B hB x y hc
    refine hc.mono fun e he => ?_
    rcases List.mem_append.1 he with he | he
    · exact List.mem_append_left _ he
    · exact List.mem_append_right _ (h1 e he)
  have parts : ∀ a b, a ∈ R → b ∈ R → ∀ p o q, a.1 = p ++ o → b.1 = o ++ q → (p ++ o ++ q).length ≤ M →
      isWord L M (p ++ o ++ q) = true ∧ (Ok L (a.2 ++ q) ∧ fold L (a.2 ++ q) < fold L (p ++ o ++ q)) ∧ (Ok L (p ++ b.2) ∧ fold L (p ++ b.2) < fold L (p ++ o ++ q)) := by
    intro a b ha hb p o q e1 e2 hlen
    have wa := h.rules.from_ a ha
    have wb := h.rules.from_ b hb
    rw [e1] at wa
    rw [e2] at wb
    obtain ⟨op, oo⟩ := (ok_iff2 L _ _).1 (isWord_ok wa)
    obtain ⟨_, oq⟩ := (ok_iff2 L _ _).1 (isWord_ok wb)
    have oa := isWord_ok (h.rules.to_ a ha)
    have ob := isWord_ok (h.rules.to_ b hb)
    refine ⟨(isWord_iff L M _).2 ⟨(ok_iff3 L _ _ _).2 ⟨op, oo, oq⟩, hlen⟩, ⟨(ok_iff2 L _ _).2 ⟨oa, oq⟩, ?_⟩, ⟨(ok_iff2 L _ _).2 ⟨op, ob⟩, ?_⟩⟩
    · have := fold_within hL [] q (by rfl) oq oa ((ok_iff2 L _ _).2 ⟨op, oo⟩) hL1 (by have := h.rules.less a ha; rw [e1] at this; exact this)
      simpa using this
    · have := fold_within hL p [] op (by rfl) ob ((ok_iff2 L _ _).2 ⟨oo, oq⟩) hL1 (by have := h.rules.less b hb; rw [e2] at this; exact this)
      simpa [List.append_assoc] using this
  refine ⟨h.rules, h.sound, h.apart, ?_, ?_, fun q hq => conv _ (lower_word hL) _ _ (h.said q hq)⟩
  · intro e he
    rcases h2 e he with he | ⟨a, b, ha, hb, p, o, q, e1, e2, hlen, rfl⟩
    · exact h.pend e he
    · obtain ⟨wz, pa, pb⟩ := parts a b ha hb p o q e1 e2 hlen
      have w1 := isWord_of_le hL pa.1 wz (Nat.le_of_lt pa.2)
      have w2 := isWord_of_le hL pb.1 wz (Nat.le_of_lt pb.2)
      refine ⟨w1, w2, ?_⟩
      have s1 := C.within [] _ _ q (h.sound a ha) (by rw [e1]; simpa using wz) (by simpa using w1)
      have s2 := C.within p _ _ [] (h.sound b hb) (by rw [e2]; simpa [List.append_assoc] using wz) (by simpa using w2)
      rw [e1] at s1
      rw [e2] at s2
      simp only [List.nil_append, List.append_nil] at s1 s2
      rw [← List.append_assoc] at s2
      exact C.next _ _ _ (C.back _ _ s1) s2
  · intro a b ha hb _ _ p o q e1 e2 n1 n2 n3 hlen
    by_cases hx : a.1 = X ∨ b.1 = X
    · obtain ⟨_, pa, pb⟩ := parts a b ha hb p o q e1 e2 hlen
      have := (conn_eqc (fun x => Ok L x ∧ fold L x < fold L (p ++ o ++ q)) (R ++ E')).step (a.2 ++ q, p ++ b.2) (List.mem_append_right _ (h3 a b ha hb hx p o q e1 e2 n1 n2 n3 hlen)) [] [] (by simpa using pa) (by simpa using pb)
      simpa using this
    · exact conv _ (lower_lt L _) _ _ (h.cp a b ha hb (fun e => hx (Or.inl e)) (fun e => hx (Or.inr e)) p o q e1 e2 n1 n2 n3 hlen)

theorem cnt_add {L M : Nat} {R R1 : List Rl} {X t : Wd} (hR1 : ∀ a, a ∈ R1 ↔ a ∈ R ∧ ¬ Occ X a.1) (hXi : Irr R X) (hXw : X ∈ upTo L M) : cntIrr L M (R1 ++ [(X, t)]) < cntIrr L M R := by
  unfold cntIrr
  have gen : ∀ (l : List Wd), X ∈ l → l.countP (irrB (R1 ++ [(X, t)])) < l.countP (irrB R) := by
    intro l
    have imp : ∀ x, irrB (R1 ++ [(X, t)]) x = true → irrB R x = true := by
      intro x hx
      rw [irrB_iff] at hx ⊢
      intro a ha ho
      by_cases hd : Occ X a.1
      · obtain ⟨u, v, e⟩ := ho
        obtain ⟨u', v', e'⟩ := hd
        exact hx (X, t) (by simp) ⟨u ++ u', v' ++ v, by rw [e, e']; simp [List.append_assoc]⟩
      · exact hx a (List.mem_append_left _ ((hR1 a).2 ⟨ha, hd⟩)) ho
    have hXt : irrB R X = true := (irrB_iff _ _).2 hXi
    have hXf : irrB (R1 ++ [(X, t)]) X = false := by
      cases hb : irrB (R1 ++ [(X, t)]) X with
      | false => rfl
      | true => exact absurd ⟨[], [], by simp⟩ ((irrB_iff _ _).1 hb (X, t) (by simp))
    induction l with
    | nil => intro h; cases h
    | cons a l ih =>
      intro h
      rw [List.countP_cons, List.countP_cons]
      have hle : l.countP (irrB (R1 ++ [(X, t)])) ≤ l.countP (irrB R) := List.countP_mono_left fun y _ => imp y
      rcases List.mem_cons.1 h with rfl | h'
      · rw [hXt, hXf]; simp; omega
      · have := ih h'
        cases hb : irrB (R1 ++ [(X, t)]) a with
        | true => rw [imp a hb]; simp; omega
        | false => simp; split <;> omega
  exact gen _ hXw
end Hw
