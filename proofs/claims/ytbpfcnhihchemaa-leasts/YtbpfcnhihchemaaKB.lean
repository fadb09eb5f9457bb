import Derived.Test.YtbpfcnhihchemaaEqv
namespace Hw
set_option linter.unusedVariables false
set_option linter.unusedSimpArgs false
/-! Rules that make words less. -/
abbrev Rl := Wd × Wd

def Occ (p s : Wd) : Prop := ∃ u v, s = u ++ p ++ v
def Red (R : List Rl) (x y : Wd) : Prop := ∃ r, r ∈ R ∧ ∃ u v, x = u ++ r.1 ++ v ∧ y = u ++ r.2 ++ v
def Steps (R : List Rl) (x y : Wd) : Prop := ∀ Q : Wd → Wd → Prop, (∀ a, Q a a) → (∀ a b c, Red R a b → Q b c → Q a c) → Q x y
def Irr (R : List Rl) (x : Wd) : Prop := ∀ r, r ∈ R → ¬ Occ r.1 x
def NF (R : List Rl) (x y : Wd) : Prop := Steps R x y ∧ Irr R y
def Ok (L : Nat) (x : Wd) : Prop := x.all (okc L) = true

theorem Steps.refl (R : List Rl) (x : Wd) : Steps R x x := fun Q h _ => h x
theorem Steps.head {R : List Rl} {x y z : Wd} (h : Red R x y) (k : Steps R y z) : Steps R x z := fun Q h1 h2 => h2 _ _ _ h (k Q h1 h2)
theorem Steps.one {R : List Rl} {x y : Wd} (h : Red R x y) : Steps R x y := Steps.head h (Steps.refl R y)
theorem Steps.trans {R : List Rl} {x y z : Wd} (h : Steps R x y) (k : Steps R y z) : Steps R x z :=
  h (fun a b => Steps R b z → Steps R a z) (fun _ h => h) (fun a b c hr ih hk => Steps.head hr (ih hk)) k

theorem Red.within {R : List Rl} {x y : Wd} (u v : Wd) (h : Red R x y) : Red R (u ++ x ++ v) (u ++ y ++ v) := by
  obtain ⟨r, hr, a, b, rfl, rfl⟩ := h
  exact ⟨r, hr, u ++ a, b ++ v, by simp [List.append_assoc], by simp [List.append_assoc]⟩
theorem Steps.within {R : List Rl} {x y : Wd} (u v : Wd) (h : Steps R x y) : Steps R (u ++ x ++ v) (u ++ y ++ v) :=
  h (fun a b => Steps R (u ++ a ++ v) (u ++ b ++ v)) (fun _ => Steps.refl _ _) (fun a b c hr ih => Steps.head (hr.within u v) ih)
theorem Red.mono {R R' : List Rl} (hs : ∀ r, r ∈ R → r ∈ R') {x y : Wd} (h : Red R x y) : Red R' x y := by
  obtain ⟨r, hr, k⟩ := h; exact ⟨r, hs r hr, k⟩
theorem Steps.mono {R R' : List Rl} (hs : ∀ r, r ∈ R → r ∈ R') {x y : Wd} (h : Steps R x y) : Steps R' x y :=
  h (fun a b => Steps R' a b) (fun _ => Steps.refl _ _) (fun a b c hr ih => Steps.head (hr.mono hs) ih)
theorem Steps.cases {R : List Rl} {x y : Wd} (h : Steps R x y) : x = y ∨ ∃ z, Red R x z ∧ Steps R z y :=
  (h (fun a b => Steps R a b ∧ (a = b ∨ ∃ z, Red R a z ∧ Steps R z b)) (fun a => ⟨Steps.refl _ _, Or.inl rfl⟩) (fun a b c hr ih => ⟨Steps.head hr ih.1, Or.inr ⟨b, hr, ih.1⟩⟩)).2
theorem Irr.of_red {R : List Rl} {x y : Wd} (h : Irr R x) : ¬ Red R x y := by
  rintro ⟨r, hr, u, v, e, _⟩; exact h r hr ⟨u, v, e⟩
theorem Steps.of_irr {R : List Rl} {x y : Wd} (h : Steps R x y) (hi : Irr R x) : x = y := by
  rcases h.cases with h | ⟨z, hr, _⟩
  · exact h
  · exact absurd hr hi.of_red

/-! less -/
theorem ok_iff3 (L : Nat) (u x v : Wd) : Ok L (u ++ x ++ v) ↔ Ok L u ∧ Ok L x ∧ Ok L v := by
  unfold Ok; rw [all_append3, Bool.and_eq_true, Bool.and_eq_true, and_assoc]
theorem ok_iff2 (L : Nat) (u x : Wd) : Ok L (u ++ x) ↔ Ok L u ∧ Ok L x := by
  unfold Ok; rw [List.all_append, Bool.and_eq_true]

structure RulesOk (L M : Nat) (R : List Rl) : Prop where
  from_ : ∀ r, r ∈ R → isWord L M r.1 = true
  to_ : ∀ r, r ∈ R → isWord L M r.2 = true
  less : ∀ r, r ∈ R → fold L r.2 < fold L r.1

theorem isWord_ok {L M : Nat} {x : Wd} (h : isWord L M x = true) : Ok L x := ((isWord_iff L M x).1 h).1
theorem isWord_len {L M : Nat} {x : Wd} (h : isWord L M x = true) : x.length ≤ M := ((isWord_iff L M x).1 h).2
theorem isWord_of_le {L M : Nat} (hL : L ≤ 3) {x y : Wd} (hx : Ok L x) (hy : isWord L M y = true) (h : fold L x ≤ fold L y) : isWord L M x = true :=
  (isWord_iff L M x).2 ⟨hx, Nat.le_trans (length_le_of_fold hL hx (isWord_ok hy) h) (isWord_len hy)⟩

theorem Red.less {L M : Nat} (hL1 : 1 ≤ L) (hL : L ≤ 3) {R : List Rl} (hR : RulesOk L M R) {x y : Wd} (hx : Ok L x) (h : Red R x y) : Ok L y ∧ fold L y < fold L x := by
  obtain ⟨r, hr, u, v, rfl, rfl⟩ := h
  obtain ⟨h1, h2, h3⟩ := (ok_iff3 L _ _ _).1 hx
  have ht := isWord_ok (hR.to_ r hr)
  exact ⟨(ok_iff3 L _ _ _).2 ⟨h1, ht, h3⟩, fold_within hL u v h1 h3 ht h2 hL1 (hR.less r hr)⟩
theorem Steps.less {L M : Nat} (hL1 : 1 ≤ L) (hL : L ≤ 3) {R : List Rl} (hR : RulesOk L M R) {x y : Wd} (hx : Ok L x) (h : Steps R x y) : Ok L y ∧ fold L y ≤ fold L x :=
  h (fun a b => Ok L a → Ok L b ∧ fold L b ≤ fold L a) (fun a h => ⟨h, Nat.le_refl _⟩)
    (fun a b c hr ih ha => by
      have h1 := hr.less hL1 hL hR ha
      have h2 := ih h1.1
      exact ⟨h2.1, by omega⟩) hx

theorem NF.exists {L M : Nat} (hL1 : 1 ≤ L) (hL : L ≤ 3) {R : List Rl} (hR : RulesOk L M R) : ∀ (n : Nat) (x : Wd), fold L x ≤ n → Ok L x → ∃ y, NF R x y := by
  intro n
  induction n with
  | zero =>
    intro x hx ho
    refine ⟨x, Steps.refl _ _, ?_⟩
    intro r hr ⟨u, v, e⟩
    have := Red.less hL1 hL hR ho ⟨r, hr, u, v, e, rfl⟩
    omega
  | succ n ih =>
    intro x hx ho
    by_cases h : ∃ y, Red R x y
    · obtain ⟨y, hy⟩ := h
      have h1 := hy.less hL1 hL hR ho
      obtain ⟨z, hz⟩ := ih y (by omega) h1.1
      exact ⟨z, Steps.head hy hz.1, hz.2⟩
    · refine ⟨x, Steps.refl _ _, ?_⟩
      intro r hr ⟨u, v, e⟩
      exact h ⟨_, r, hr, u, v, e, rfl⟩

/-! connected below -/
structure EqC (B : Wd → Prop) (T : List Rl) (Q : Wd → Wd → Prop) : Prop where
  refl : ∀ x, Q x x
  symm : ∀ x y, Q x y → Q y x
  trans : ∀ x y z, Q x y → Q y z → Q x z
  step : ∀ p, p ∈ T → ∀ u v, B (u ++ p.1 ++ v) → B (u ++ p.2 ++ v) → Q (u ++ p.1 ++ v) (u ++ p.2 ++ v)
def Conn (B : Wd → Prop) (T : List Rl) (x y : Wd) : Prop := ∀ Q, EqC B T Q → Q x y
theorem conn_eqc (B : Wd → Prop) (T : List Rl) : EqC B T (Conn B T) where
  refl x := fun Q c => c.refl x
  symm x y h := fun Q c => c.symm x y (h Q c)
  trans x y z h k := fun Q c => c.trans x y z (h Q c) (k Q c)
  step p hp u v h1 h2 := fun Q c => c.step p hp u v h1 h2
theorem Conn.sub {B : Wd → Prop} {T T' : List Rl} (h : ∀ p, p ∈ T → ∀ u v, B (u ++ p.1 ++ v) → B (u ++ p.2 ++ v) → Conn B T' (u ++ p.1 ++ v) (u ++ p.2 ++ v)) {x y : Wd} (hc : Conn B T x y) : Conn B T' x y :=
  hc _ ⟨(conn_eqc B T').refl, (conn_eqc B T').symm, (conn_eqc B T').trans, h⟩
theorem Conn.mono {B : Wd → Prop} {T T' : List Rl} (h : ∀ p, p ∈ T → p ∈ T') {x y : Wd} (hc : Conn B T x y) : Conn B T' x y :=
  hc.sub fun p hp u v h1 h2 => (conn_eqc B T').step p (h p hp) u v h1 h2

def Lower (L : Nat) (B : Wd → Prop) : Prop := (∀ x, B x → Ok L x) ∧ ∀ x y, B y → Ok L x → fold L x ≤ fold L y → B x
theorem lower_lt (L : Nat) (z : Wd) : Lower L (fun x => Ok L x ∧ fold L x < fold L z) :=
  ⟨fun x h => h.1, fun x y hy hx h => ⟨hx, Nat.lt_of_le_of_lt h hy.2⟩⟩
theorem lower_word {L M : Nat} (hL : L ≤ 3) : Lower L (fun x => isWord L M x = true) :=
  ⟨fun x h => isWord_ok h, fun x y hy hx h => isWord_of_le hL hx hy h⟩

theorem fold_within_le {L : Nat} (hL1 : 1 ≤ L) (hL : L ≤ 3) {x y : Wd} (u v : Wd) (hu : Ok L u) (hv : Ok L v) (hx : Ok L x) (hy : Ok L y) (h : fold L x ≤ fold L y) : fold L (u ++ x ++ v) ≤ fold L (u ++ y ++ v) := by
  rcases Nat.lt_or_ge (fold L x) (fold L y) with h1 | h1
  · exact Nat.le_of_lt (fold_within hL u v hu hv hx hy hL1 h1)
  · have : x = y := fold_inj hL (max x.length y.length) x y ((isWord_iff _ _ _).2 ⟨hx, by omega⟩) ((isWord_iff _ _ _).2 ⟨hy, by omega⟩) (by omega)
    rw [this]; exact Nat.le_refl _

/-- what rules make of a word is connected with it, within letters. -/
theorem conn_steps {L M : Nat} (hL1 : 1 ≤ L) (hL : L ≤ 3) {R T : List Rl} (hR : RulesOk L M R) (hT : ∀ r, r ∈ R → r ∈ T) {B : Wd → Prop} (hB : Lower L B) (u v : Wd) {x y : Wd} (h : Steps R x y) (hx : B (u ++ x ++ v)) :
    Conn B T (u ++ x ++ v) (u ++ y ++ v) :=
  h (fun a b => B (u ++ a ++ v) → Conn B T (u ++ a ++ v) (u ++ b ++ v)) (fun a _ => (conn_eqc B T).refl _)
    (fun a b c hr ih ha => by
      have hok := hB.1 _ ha
      obtain ⟨ho1, ho2, ho3⟩ := (ok_iff3 L _ _ _).1 hok
      have hl := hr.less hL1 hL hR ho2
      have hb : B (u ++ b ++ v) := hB.2 _ _ ha ((ok_iff3 L _ _ _).2 ⟨ho1, hl.1, ho3⟩) (fold_within_le hL1 hL u v ho1 ho3 hl.1 ho2 (by omega))
      refine (conn_eqc B T).trans _ _ _ ?_ (ih hb)
      obtain ⟨r, hr', p, q, rfl, rfl⟩ := hr
      have := (conn_eqc B T).step r (hT r hr') (u ++ p) (q ++ v) (by simpa [List.append_assoc] using ha) (by simpa [List.append_assoc] using hb)
      simpa [List.append_assoc] using this) hx

/-! what two rules make of one word -/
def CP (L M : Nat) (R E : List Rl) (ex : Wd → Prop) : Prop :=
  ∀ a b, a ∈ R → b ∈ R → ¬ ex a.1 → ¬ ex b.1 → ∀ p o q, a.1 = p ++ o → b.1 = o ++ q → p ≠ [] → o ≠ [] → q ≠ [] → (p ++ o ++ q).length ≤ M →
    Conn (fun x => Ok L x ∧ fold L x < fold L (p ++ o ++ q)) (R ++ E) (a.2 ++ q) (p ++ b.2)

def Apart (R : List Rl) : Prop := R.Pairwise fun a b => ¬ Occ a.1 b.1 ∧ ¬ Occ b.1 a.1

theorem Apart.eq {R : List Rl} (h : Apart R) {a b : Rl} (ha : a ∈ R) (hb : b ∈ R) (ho : Occ a.1 b.1) : a = b := by
  induction R with
  | nil => cases ha
  | cons c R ih =>
    rw [Apart, List.pairwise_cons] at h
    rcases List.mem_cons.1 ha with rfl | ha' <;> rcases List.mem_cons.1 hb with rfl | hb'
    · rfl
    · exact absurd ho (h.1 b hb').1
    · exact absurd ho (h.1 a ha').2
    · exact ih h.2 ha' hb'

structure Fin (L M : Nat) (said R : List Rl) : Prop where
  rules : RulesOk L M R
  sound : ∀ r, r ∈ R → Eqv L M said r.1 r.2
  apart : Apart R
  cp : CP L M R [] (fun _ => False)
  said : ∀ p, p ∈ said → Conn (fun x => isWord L M x = true) R p.1 p.2

theorem append_eq_split {a b c d : Wd} (h : a ++ b = c ++ d) (hl : a.length ≤ c.length) : ∃ m, c = a ++ m ∧ b = m ++ d := by
  rcases List.append_eq_append_iff.1 h with ⟨m, h1, h2⟩ | ⟨m, h1, h2⟩
  · exact ⟨m, h1, h2⟩
  · have hm : m = [] := by
      have := congrArg List.length h1; simp at this
      exact List.length_eq_zero_iff.1 (by omega)
    subst hm
    exact ⟨[], by simpa using h1.symm, by simpa using h2.symm⟩

/-- two ways to use rules on one word: both come to the same. -/
theorem local_conf {L M : Nat} (hL1 : 1 ≤ L) (hL : L ≤ 3) {R : List Rl} (hR : RulesOk L M R) (hA : Apart R) (hC : CP L M R [] (fun _ => False)) {x : Wd} (hx : isWord L M x = true)
    (hU : ∀ w, Ok L w → fold L w < fold L x → ∀ y z, NF R w y → NF R w z → y = z) {r1 r2 : Rl} (h1 : r1 ∈ R) (h2 : r2 ∈ R) {u1 v1 u2 v2 : Wd} (e1 : x = u1 ++ r1.1 ++ v1) (e2 : x = u2 ++ r2.1 ++ v2)
    (hle : u1.length ≤ u2.length) : ∃ n, NF R (u1 ++ r1.2 ++ v1) n ∧ NF R (u2 ++ r2.2 ++ v2) n := by
  have hox := isWord_ok hx
  have ha := Red.less hL1 hL hR hox ⟨r1, h1, u1, v1, e1, rfl⟩
  have hb := Red.less hL1 hL hR hox ⟨r2, h2, u2, v2, e2, rfl⟩
  have ne1 : r1.1 ≠ [] := by
    intro e; have := hR.less r1 h1; rw [e] at this; simp [fold] at this
  have ne2 : r2.1 ≠ [] := by
    intro e; have := hR.less r2 h2; rw [e] at this; simp [fold] at this
  have e12 : u1 ++ (r1.1 ++ v1) = u2 ++ (r2.1 ++ v2) := by rw [← List.append_assoc, ← List.append_assoc, ← e1, e2]
  obtain ⟨m, hm1, hm2⟩ := append_eq_split e12 hle
  -- r1.1 ++ v1 = m ++ (r2.1 ++ v2), u2 = u1 ++ m
  by_cases hdis : r1.1.length ≤ m.length
  · obtain ⟨k, hk1, hk2⟩ := append_eq_split hm2 hdis
    -- m = r1.1 ++ k, v1 = k ++ r2.1 ++ v2
    have hd1 : Red R (u1 ++ r1.2 ++ v1) (u1 ++ r1.2 ++ k ++ r2.2 ++ v2) :=
      ⟨r2, h2, u1 ++ r1.2 ++ k, v2, by rw [hk2]; simp [List.append_assoc], rfl⟩
    have hd2 : Red R (u2 ++ r2.2 ++ v2) (u1 ++ r1.2 ++ k ++ r2.2 ++ v2) :=
      ⟨r1, h1, u1, k ++ r2.2 ++ v2, by rw [hm1, hk1]; simp [List.append_assoc], by simp [List.append_assoc]⟩
    have hok := (hd1.less hL1 hL hR ha.1).1
    obtain ⟨n, hn⟩ := NF.exists hL1 hL hR _ _ (Nat.le_refl _) hok
    exact ⟨n, ⟨Steps.head hd1 hn.1, hn.2⟩, ⟨Steps.head hd2 hn.1, hn.2⟩⟩
  · have hle2 : m.length ≤ r1.1.length := by omega
    obtain ⟨o, ho1, ho2⟩ := append_eq_split hm2.symm hle2
    -- r1.1 = m ++ o, r2.1 ++ v2 = o ++ v1
    have hone : o ≠ [] := by intro e; rw [e, List.append_nil] at ho1; rw [ho1] at hdis; omega
    by_cases hin : r2.1.length ≤ o.length
    · -- r2.1 stands in r1.1
      obtain ⟨k, hk1, hk2⟩ := append_eq_split ho2 hin
      have hocc : Occ r2.1 r1.1 := ⟨m, k, by rw [ho1, hk1]; simp [List.append_assoc]⟩
      have he := hA.eq h2 h1 hocc
      subst he
      have hl := congrArg List.length ho1
      rw [hk1] at hl
      simp at hl
      have hm0 : m = [] := List.length_eq_zero_iff.1 (by omega)
      have hk0 : k = [] := List.length_eq_zero_iff.1 (by omega)
      subst hm0 hk0
      simp at hm1 hk2
      subst hm1 hk2
      obtain ⟨n, hn⟩ := NF.exists hL1 hL hR _ _ (Nat.le_refl _) ha.1
      exact ⟨n, hn, hn⟩
    · obtain ⟨q, hq1, hq2⟩ := append_eq_split ho2.symm (by omega)
      -- r2.1 = o ++ q, v1 = q ++ v2
      have hqne : q ≠ [] := by intro e; rw [e, List.append_nil] at hq1; rw [hq1] at hin; omega
      by_cases hmn : m = []
      · -- r1.1 = o is a head of r2.1
        subst hmn
        simp at ho1
        have hocc : Occ r1.1 r2.1 := ⟨[], q, by rw [hq1, ho1]; simp⟩
        have he := hA.eq h1 h2 hocc
        subst he
        have := congrArg List.length hq1
        rw [ho1] at this
        simp at this
        exact absurd this hqne
      · have hz : x = u1 ++ (m ++ o ++ q) ++ v2 := by rw [e1, ho1, hq2]; simp [List.append_assoc]
        have hlen : (m ++ o ++ q).length ≤ M := by
          have := isWord_len hx; rw [hz] at this; simp at this ⊢; omega
        have hc := hC r1 r2 h1 h2 (fun h => h) (fun h => h) m o q ho1 hq1 hmn hone hqne hlen
        rw [List.append_nil] at hc
        have hox' := hox
        rw [hz] at hox'
        obtain ⟨hou, hoz, hov⟩ := (ok_iff3 L _ _ _).1 hox'
        have key := hc (fun a b => ∀ n, NF R (u1 ++ a ++ v2) n ↔ NF R (u1 ++ b ++ v2) n) ⟨fun _ _ => Iff.rfl, fun _ _ h n => (h n).symm, fun _ _ _ h k n => (h n).trans (k n), ?_⟩
        · have ea : u1 ++ r1.2 ++ v1 = u1 ++ (r1.2 ++ q) ++ v2 := by rw [hq2]; simp [List.append_assoc]
          have eb : u2 ++ r2.2 ++ v2 = u1 ++ (m ++ r2.2) ++ v2 := by rw [hm1]; simp [List.append_assoc]
          obtain ⟨n, hn⟩ := NF.exists hL1 hL hR _ _ (Nat.le_refl _) ha.1
          rw [ea] at hn ⊢
          rw [eb]
          exact ⟨n, hn, (key n).1 hn⟩
        · intro p hp u v hB1 hB2 n
          have hred : Red R (u1 ++ (u ++ p.1 ++ v) ++ v2) (u1 ++ (u ++ p.2 ++ v) ++ v2) := Red.within u1 v2 ⟨p, hp, u, v, rfl, rfl⟩
          have hlt : fold L (u1 ++ (u ++ p.1 ++ v) ++ v2) < fold L x := by rw [hz]; exact fold_within hL u1 v2 hou hov hB1.1 hoz hL1 hB1.2
          have hokp : Ok L (u1 ++ (u ++ p.1 ++ v) ++ v2) := (ok_iff3 L _ _ _).2 ⟨hou, hB1.1, hov⟩
          constructor
          · intro hn
            obtain ⟨n', hn'⟩ := NF.exists hL1 hL hR _ _ (Nat.le_refl _) (hred.less hL1 hL hR hokp).1
            have := hU _ hokp hlt n n' hn ⟨Steps.head hred hn'.1, hn'.2⟩
            rw [this]; exact hn'
          · intro hn
            exact ⟨Steps.head hred hn.1, hn.2⟩

theorem uniq {L M : Nat} (hL1 : 1 ≤ L) (hL : L ≤ 3) {R : List Rl} (hR : RulesOk L M R) (hA : Apart R) (hC : CP L M R [] (fun _ => False)) :
    ∀ (N : Nat) (x : Wd), fold L x ≤ N → isWord L M x = true → ∀ y z, NF R x y → NF R x z → y = z := by
  intro N
  induction N using Nat.strongRecOn with
  | _ N ih =>
    intro x hN hx y z hy hz
    have hU : ∀ w, Ok L w → fold L w < fold L x → ∀ y z, NF R w y → NF R w z → y = z := fun w hw hl y z h k =>
      ih (fold L w) (by omega) w (Nat.le_refl _) (isWord_of_le hL hw hx (by omega)) y z h k
    rcases hy.1.cases with rfl | ⟨a, ha, hay⟩
    · exact hz.1.of_irr hy.2
    · rcases hz.1.cases with rfl | ⟨b, hb, hbz⟩
      · exact absurd ha hz.2.of_red
      · have hla := ha.less hL1 hL hR (isWord_ok hx)
        have hlb := hb.less hL1 hL hR (isWord_ok hx)
        obtain ⟨r1, h1, u1, v1, e1, rfl⟩ := ha
        obtain ⟨r2, h2, u2, v2, e2, rfl⟩ := hb
        have hj : ∃ n, NF R (u1 ++ r1.2 ++ v1) n ∧ NF R (u2 ++ r2.2 ++ v2) n := by
          rcases Nat.le_total u1.length u2.length with hle | hle
          · exact local_conf hL1 hL hR hA hC hx hU h1 h2 e1 e2 hle
          · obtain ⟨n, k1, k2⟩ := local_conf hL1 hL hR hA hC hx hU h2 h1 e2 e1 hle
            exact ⟨n, k2, k1⟩
        obtain ⟨n, k1, k2⟩ := hj
        rw [hU _ hla.1 hla.2 y n ⟨hay, hy.2⟩ k1, hU _ hlb.1 hlb.2 z n ⟨hbz, hz.2⟩ k2]

theorem Steps.eqv {L M : Nat} (hL1 : 1 ≤ L) (hL : L ≤ 3) {said R : List Rl} (hR : RulesOk L M R) (hs : ∀ r, r ∈ R → Eqv L M said r.1 r.2) {x y : Wd} (hx : isWord L M x = true) (h : Steps R x y) : Eqv L M said x y :=
  h (fun a b => isWord L M a = true → Eqv L M said a b) (fun a ha => (eqv_clo L M said).self a ha)
    (fun a b c hr ih ha => by
      have hl := hr.less hL1 hL hR (isWord_ok ha)
      have hb := isWord_of_le hL hl.1 ha (by omega)
      refine (eqv_clo L M said).next _ _ _ ?_ (ih hb)
      obtain ⟨r, hr', u, v, rfl, rfl⟩ := hr
      exact (eqv_clo L M said).within u _ _ v (hs r hr') ha hb) hx

/-- At the end stands the least word that is the same. -/
theorem Fin.least {L M : Nat} (hL1 : 1 ≤ L) (hL : L ≤ 3) {said R : List Rl} (f : Fin L M said R) (hsaid : ∀ p, p ∈ said → isWord L M p.1 = true ∧ isWord L M p.2 = true) {x n : Wd} (hx : isWord L M x = true) (hn : NF R x n) : IsLeast L M said x n := by
  have hR := f.rules
  have hU : ∀ x, isWord L M x = true → ∀ y z, NF R x y → NF R x z → y = z := fun x hx => uniq hL1 hL hR f.apart f.cp _ x (Nat.le_refl _) hx
  have hl := hn.1.less hL1 hL hR (isWord_ok hx)
  refine ⟨isWord_of_le hL hl.1 hx hl.2, hn.1.eqv hL1 hL hR f.sound hx, ?_⟩
  intro y hy he
  have stepIff : ∀ a b, isWord L M a = true → Steps R a b → ∀ n, NF R a n ↔ NF R b n := by
    intro a b ha hab n
    have hb := hab.less hL1 hL hR (isWord_ok ha)
    constructor
    · intro hn
      obtain ⟨n', hn'⟩ := NF.exists hL1 hL hR _ b (Nat.le_refl _) hb.1
      rw [hU a ha n n' hn ⟨hab.trans hn'.1, hn'.2⟩]; exact hn'
    · intro hn; exact ⟨hab.trans hn.1, hn.2⟩
  have key := he (fun a b => isWord L M a = true ∧ isWord L M b = true ∧ ∀ n, NF R a n ↔ NF R b n) ?_
  · have hyn := (key.2.2 n).1 hn
    exact (hyn.1.less hL1 hL hR (isWord_ok hy)).2
  · constructor
    · exact fun x hx => ⟨hx, hx, fun _ => Iff.rfl⟩
    · rintro x y ⟨a, b, c⟩; exact ⟨b, a, fun n => (c n).symm⟩
    · rintro x y z ⟨a, b, c⟩ ⟨a', b', c'⟩; exact ⟨a, b', fun n => (c n).trans (c' n)⟩
    · intro p hp
      refine ⟨(hsaid p hp).1, (hsaid p hp).2, ?_⟩
      refine f.said p hp (fun a b => ∀ n, NF R a n ↔ NF R b n) ⟨fun _ _ => Iff.rfl, fun _ _ h n => (h n).symm, fun _ _ _ h k n => (h n).trans (k n), ?_⟩
      intro r hr u v h1 h2
      exact stepIff _ _ h1 (Steps.one ⟨r, hr, u, v, rfl, rfl⟩)
    · rintro u x y v ⟨a, b, c⟩ h1 h2
      refine ⟨h1, h2, ?_⟩
      obtain ⟨m, hm⟩ := NF.exists hL1 hL hR _ x (Nat.le_refl _) (isWord_ok a)
      have hm2 := (c m).1 hm
      intro n
      exact (stepIff _ _ h1 (hm.1.within u v) n).trans (stepIff _ _ h2 (hm2.1.within u v) n).symm
end Hw
