import Derived.Test.YtfiebibpgbadlaaGreatWd
import Derived.Lib.IndexMore
import Derived.Lib.Bytealg
import Derived.Lib.Small
namespace Hw
set_option linter.unusedVariables false
set_option linter.unusedSimpArgs false
/-! Rules that make words less. -/
abbrev Rl := Wd × Wd

def Occ (p s : Wd) : Prop := ∃ u v, s = u ++ p ++ v
def Red (R : List Rl) (x y : Wd) : Prop := ∃ r, r ∈ R ∧ ∃ u v, x = u ++ r.1 ++ v ∧ y = u ++ r.2 ++ v
def Steps (R : List Rl) (x y : Wd) : Prop := ∀ Q : Wd → Wd → Prop, (∀ a, Q a a) → (∀ a b c, Red R a b → Q b c → Q a c) → Q x y
def Irr (R : List Rl) (x : Wd) : Prop := ∀ r, r ∈ R → ¬ Occ r.1 x
def NF (R : List Rl) (x y : Wd) : Prop := Steps R x y ∧ Irr R y
def Ok (L : Nat) (x : Wd) : Prop := x.all (okc L) = true

theorem Steps.refl (R : List Rl) (x : Wd) : Steps R x x := fun Q h _ => h x
theorem Steps.head {R : List Rl} {x y z : Wd} (h : Red R x y) (k : Steps R y z) : Steps R x z := fun Q h1 h2 => h2 _ _ _ h (k Q h1 h2)
theorem Steps.one {R : List Rl} {x y : Wd} (h : Red R x y) : Steps R x y := Steps.head h (Steps.refl R y)
theorem Steps.trans {R : List Rl} {x y z : Wd} (h : Steps R x y) (k : Steps R y z) : Steps R x z :=
  h (fun a b => Steps R b z → Steps R a z) (fun _ h => h) (fun a b c hr ih hk => Steps.head hr (ih hk)) k

theorem Red.within {R : List Rl} {x y : Wd} (u v : Wd) (h : Red R x y) : Red R (u ++ x ++ v) (u ++ y ++ v) := by
  obtain ⟨r, hr, a, b, rfl, rfl⟩ := h
  exact ⟨r, hr, u ++ a, b ++ v, by simp [List.append_assoc], by simp [List.append_assoc]⟩
theorem Steps.within {R : List Rl} {x y : Wd} (u v : Wd) (h : Steps R x y) : Steps R (u ++ x ++ v) (u ++ y ++ v) :=
  h (fun a b => Steps R (u ++ a ++ v) (u ++ b ++ v)) (fun _ => Steps.refl _ _) (fun a b c hr ih => Steps.head (hr.within u v) ih)
theorem Red.mono {R R' : List Rl} (hs : ∀ r, r ∈ R → r ∈ R') {x y : Wd} (h : Red R x y) : Red R' x y := by
  obtain ⟨r, hr, k⟩ := h; exact ⟨r, hs r hr, k⟩
theorem Steps.mono {R R' : List Rl} (hs : ∀ r, r ∈ R → r ∈ R') {x y : Wd} (h : Steps R x y) : Steps R' x y :=
  h (fun a b => Steps R' a b) (fun _ => Steps.refl _ _) (fun a b c hr ih => Steps.head (hr.mono hs) ih)
theorem Steps.cases {R : List Rl} {x y : Wd} (h : Steps R x y) : x = y ∨ ∃ z, Red R x z ∧ Steps R z y :=
  (h (fun a b => Steps R a b ∧ (a = b ∨ ∃ z, Red R a z ∧ Steps R z b)) (fun a => ⟨Steps.refl _ _, Or.inl rfl⟩) (fun a b c hr ih => ⟨Steps.head hr ih.1, Or.inr ⟨b, hr, ih.1⟩⟩)).2
theorem Irr.of_red {R : List Rl} {x y : Wd} (h : Irr R x) : ¬ Red R x y := by
  rintro ⟨r, hr, u, v, e, _⟩; exact h r hr ⟨u, v, e⟩
theorem Steps.of_irr {R : List Rl} {x y : Wd} (h : Steps R x y) (hi : Irr R x) : x = y := by
  rcases h.cases with h | ⟨z, hr, _⟩
  · exact h
  · exact absurd hr hi.of_red

/-! less -/
theorem ok_iff3 (L : Nat) (u x v : Wd) : Ok L (u ++ x ++ v) ↔ Ok L u ∧ Ok L x ∧ Ok L v := by
  unfold Ok; rw [all_append3, Bool.and_eq_true, Bool.and_eq_true, and_assoc]
theorem ok_iff2 (L : Nat) (u x : Wd) : Ok L (u ++ x) ↔ Ok L u ∧ Ok L x := by
  unfold Ok; rw [List.all_append, Bool.and_eq_true]

structure RulesOk (L M : Nat) (R : List Rl) : Prop where
  from_ : ∀ r, r ∈ R → isWord L M r.1 = true
  to_ : ∀ r, r ∈ R → isWord L M r.2 = true
  less : ∀ r, r ∈ R → fold L r.2 < fold L r.1

theorem isWord_ok {L M : Nat} {x : Wd} (h : isWord L M x = true) : Ok L x := ((isWord_iff L M x).1 h).1
theorem isWord_len {L M : Nat} {x : Wd} (h : isWord L M x = true) : x.length ≤ M := ((isWord_iff L M x).1 h).2
theorem isWord_of_le {L M : Nat} (hL : L ≤ 3) {x y : Wd} (hx : Ok L x) (hy : isWord L M y = true) (h : fold L x ≤ fold L y) : isWord L M x = true :=
  (isWord_iff L M x).2 ⟨hx, Nat.le_trans (length_le_of_fold hL hx (isWord_ok hy) h) (isWord_len hy)⟩

theorem Red.less {L M : Nat} (hL1 : 1 ≤ L) (hL : L ≤ 3) {R : List Rl} (hR : RulesOk L M R) {x y : Wd} (hx : Ok L x) (h : Red R x y) : Ok L y ∧ fold L y < fold L x := by
  obtain ⟨r, hr, u, v, rfl, rfl⟩ := h
  obtain ⟨h1, h2, h3⟩ := (ok_iff3 L _ _ _).1 hx
  have ht := isWord_ok (hR.to_ r hr)
  exact ⟨(ok_iff3 L _ _ _).2 ⟨h1, ht, h3⟩, fold_within hL u v h1 h3 ht h2 hL1 (hR.less r hr)⟩
theorem Steps.less {L M : Nat} (hL1 : 1 ≤ L) (hL : L ≤ 3) {R : List Rl} (hR : RulesOk L M R) {x y : Wd} (hx : Ok L x) (h : Steps R x y) : Ok L y ∧ fold L y ≤ fold L x :=
  h (fun a b => Ok L a → Ok L b ∧ fold L b ≤ fold L a) (fun a h => ⟨h, Nat.le_refl _⟩)
    (fun a b c hr ih ha => by
      have h1 := hr.less hL1 hL hR ha
      have h2 := ih h1.1
      exact ⟨h2.1, by omega⟩) hx

theorem NF.exists {L M : Nat} (hL1 : 1 ≤ L) (hL : L ≤ 3) {R : List Rl} (hR : RulesOk L M R) : ∀ (n : Nat) (x : Wd), fold L x ≤ n → Ok L x → ∃ y, NF R x y := by
  intro n
  induction n with
  | zero =>
    intro x hx ho
    refine ⟨x, Steps.refl _ _, ?_⟩
    intro r hr ⟨u, v, e⟩
    have := Red.less hL1 hL hR ho ⟨r, hr, u, v, e, rfl⟩
    omega
  | succ n ih =>
    intro x hx ho
    by_cases h : ∃ y, Red R x y
    · obtain ⟨y, hy⟩ := h
      have h1 := hy.less hL1 hL hR ho
      obtain ⟨z, hz⟩ := ih y (by omega) h1.1
      exact ⟨z, Steps.head hy hz.1, hz.2⟩
    · refine ⟨x, Steps.refl _ _, ?_⟩
      intro r hr ⟨u, v, e⟩
      exact h ⟨_, r, hr, u, v, e, rfl⟩

/-! connected below -/
structure EqC (B : Wd → Prop) (T : List Rl) (Q : Wd → Wd → Prop) : Prop where
  refl : ∀ x, Q x x
  symm : ∀ x y, Q x y → Q y x
  trans : ∀ x y z, Q x y → Q y z → Q x z
  step : ∀ p, p ∈ T → ∀ u v, B (u ++ p.1 ++ v) → B (u ++ p.2 ++ v) → Q (u ++ p.1 ++ v) (u ++ p.2 ++ v)
def Conn (B : Wd → Prop) (T : List Rl) (x y : Wd) : Prop := ∀ Q, EqC B T Q → Q x y
theorem conn_eqc (B : Wd → Prop) (T : List Rl) : EqC B T (Conn B T) where
  refl x := fun Q c => c.refl x
  symm x y h := fun Q c => c.symm x y (h Q c)
  trans x y z h k := fun Q c => c.trans x y z (h Q c) (k Q c)
  step p hp u v h1 h2 := fun Q c => c.step p hp u v h1 h2
theorem Conn.sub {B : Wd → Prop} {T T' : List Rl} (h : ∀ p, p ∈ T → ∀ u v, B (u ++ p.1 ++ v) → B (u ++ p.2 ++ v) → Conn B T' (u ++ p.1 ++ v) (u ++ p.2 ++ v)) {x y : Wd} (hc : Conn B T x y) : Conn B T' x y :=
  hc _ ⟨(conn_eqc B T').refl, (conn_eqc B T').symm, (conn_eqc B T').trans, h⟩
theorem Conn.mono {B : Wd → Prop} {T T' : List Rl} (h : ∀ p, p ∈ T → p ∈ T') {x y : Wd} (hc : Conn B T x y) : Conn B T' x y :=
  hc.sub fun p hp u v h1 h2 => (conn_eqc B T').step p (h p hp) u v h1 h2

def Lower (L : Nat) (B : Wd → Prop) : Prop := (∀ x, B x → Ok L x) ∧ ∀ x y, B y → Ok L x → fold L x ≤ fold L y → B x
theorem lower_lt (L : Nat) (z : Wd) : Lower L (fun x => Ok L x ∧ fold L x < fold L z) :=
  ⟨fun x h => h.1, fun x y hy hx h => ⟨hx, Nat.lt_of_le_of_lt h hy.2⟩⟩
theorem lower_word {L M : Nat} (hL : L ≤ 3) : Lower L (fun x => isWord L M x = true) :=
  ⟨fun x h => isWord_ok h, fun x y hy hx h => isWord_of_le hL hx hy h⟩

theorem fold_within_le {L : Nat} (hL1 : 1 ≤ L) (hL : L ≤ 3) {x y : Wd} (u v : Wd) (hu : Ok L u) (hv : Ok L v) (hx : Ok L x) (hy : Ok L y) (h : fold L x ≤ fold L y) : fold L (u ++ x ++ v) ≤ fold L (u ++ y ++ v) := by
  rcases Nat.lt_or_ge (fold L x) (fold L y) with h1 | h1
  · exact Nat.le_of_lt (fold_within hL u v hu hv hx hy hL1 h1)
  · have : x = y := fold_inj hL (max x.length y.length) x y ((isWord_iff _ _ _).2 ⟨hx, by omega⟩) ((isWord_iff _ _ _).2 ⟨hy, by omega⟩) (by omega)
    rw [this]; exact Nat.le_refl _

/-- what rules make of a word is connected with it, within letters. -/
theorem conn_steps {L M : Nat} (hL1 : 1 ≤ L) (hL : L ≤ 3) {R T : List Rl} (hR : RulesOk L M R) (hT : ∀ r, r ∈ R → r ∈ T) {B : Wd → Prop} (hB : Lower L B) (u v : Wd) {x y : Wd} (h : Steps R x y) (hx : B (u ++ x ++ v)) :
    Conn B T (u ++ x ++ v) (u ++ y ++ v) :=
  h (fun a b => B (u ++ a ++ v) → Conn B T (u ++ a ++ v) (u ++ b ++ v)) (fun a _ => (conn_eqc B T).refl _)
    (fun a b c hr ih ha => by
      have hok := hB.1 _ ha
      obtain ⟨ho1, ho2, ho3⟩ := (ok_iff3 L _ _ _).1 hok
      have hl := hr.less hL1 hL hR ho2
      have hb : B (u ++ b ++ v) := hB.2 _ _ ha ((ok_iff3 L _ _ _).2 ⟨ho1, hl.1, ho3⟩) (fold_within_le hL1 hL u v ho1 ho3 hl.1 ho2 (by omega))
      refine (conn_eqc B T).trans _ _ _ ?_ (ih hb)
      obtain ⟨r, hr', p, q, rfl, rfl⟩ := hr
      have := (conn_eqc B T).step r (hT r hr') (u ++ p) (q ++ v) (by simpa [List.append_assoc] using ha) (by simpa [List.append_assoc] using hb)
      simpa [List.append_assoc] using this) hx

/-! what two rules make of one word -/
def CP (L M : Nat) (R E : List Rl) (ex : Wd → Prop) : Prop :=
  ∀ a b, a ∈ R → b ∈ R → ¬ ex a.1 → ¬ ex b.1 → ∀ p o q, a.1 = p ++ o → b.1 = o ++ q → p ≠ [] → o ≠ [] → q ≠ [] → (p ++ o ++ q).length ≤ M →
    Conn (fun x => Ok L x ∧ fold L x < fold L (p ++ o ++ q)) (R ++ E) (a.2 ++ q) (p ++ b.2)

def Apart (R : List Rl) : Prop := R.Pairwise fun a b => ¬ Occ a.1 b.1 ∧ ¬ Occ b.1 a.1

theorem Apart.eq {R : List Rl} (h : Apart R) {a b : Rl} (ha : a ∈ R) (hb : b ∈ R) (ho : Occ a.1 b.1) : a = b := by
  induction R with
  | nil => cases ha
  | cons c R ih =>
    rw [Apart, List.pairwise_cons] at h
    rcases List.mem_cons.1 ha with rfl | ha' <;> rcases List.mem_cons.1 hb with rfl | hb'
    · rfl
    · exact absurd ho (h.1 b hb').1
    · exact absurd ho (h.1 a ha').2
    · exact ih h.2 ha' hb'

structure Fin (L M : Nat) (said R : List Rl) : Prop where
  rules : RulesOk L M R
  sound : ∀ r, r ∈ R → Eqv L M said r.1 r.2
  apart : Apart R
  cp : CP L M R [] (fun _ => False)
  said : ∀ p, p ∈ said → Conn (fun x => isWord L M x = true) R p.1 p.2

theorem append_eq_split {a b c d : Wd} (h : a ++ b = c ++ d) (hl : a.length ≤ c.length) : ∃ m, c = a ++ m ∧ b = m ++ d := by
  rcases List.append_eq_append_iff.1 h with ⟨m, h1, h2⟩ | ⟨m, h1, h2⟩
  · exact ⟨m, h1, h2⟩
  · have hm : m = [] := by
      have := congrArg List.length h1; simp at this
      exact List.length_eq_zero_iff.1 (by omega)
    subst hm
    exact ⟨[], by simpa using h1.symm, by simpa using h2.symm⟩

/-- two ways to use rules on one word: both come to the same. -/
theorem local_conf {L M : Nat} (hL1 : 1 ≤ L) (hL : L ≤ 3) {R : List Rl} (hR : RulesOk L M R) (hA : Apart R) (hC : CP L M R [] (fun _ => False)) {x : Wd} (hx : isWord L M x = true)
    (hU : ∀ w, Ok L w → fold L w < fold L x → ∀ y z, NF R w y → NF R w z → y = z) {r1 r2 : Rl} (h1 : r1 ∈ R) (h2 : r2 ∈ R) {u1 v1 u2 v2 : Wd} (e1 : x = u1 ++ r1.1 ++ v1) (e2 : x = u2 ++ r2.1 ++ v2)
    (hle : u1.length ≤ u2.length) : ∃ n, NF R (u1 ++ r1.2 ++ v1) n ∧ NF R (u2 ++ r2.2 ++ v2) n := by
  have hox := isWord_ok hx
  have ha := Red.less hL1 hL hR hox ⟨r1, h1, u1, v1, e1, rfl⟩
  have hb := Red.less hL1 hL hR hox ⟨r2, h2, u2, v2, e2, rfl⟩
  have ne1 : r1.1 ≠ [] := by
    intro e; have := hR.less r1 h1; rw [e] at this; simp [fold] at this
  have ne2 : r2.1 ≠ [] := by
    intro e; have := hR.less r2 h2; rw [e] at this; simp [fold] at this
  have e12 : u1 ++ (r1.1 ++ v1) = u2 ++ (r2.1 ++ v2) := by rw [← List.append_assoc, ← List.append_assoc, ← e1, e2]
  obtain ⟨m, hm1, hm2⟩ := append_eq_split e12 hle
  -- r1.1 ++ v1 = m ++ (r2.1 ++ v2), u2 = u1 ++ m
  by_cases hdis : r1.1.length ≤ m.length
  · obtain ⟨k, hk1, hk2⟩ := append_eq_split hm2 hdis
    -- m = r1.1 ++ k, v1 = k ++ r2.1 ++ v2
    have hd1 : Red R (u1 ++ r1.2 ++ v1) (u1 ++ r1.2 ++ k ++ r2.2 ++ v2) :=
      ⟨r2, h2, u1 ++ r1.2 ++ k, v2, by rw [hk2]; simp [List.append_assoc], rfl⟩
    have hd2 : Red R (u2 ++ r2.2 ++ v2) (u1 ++ r1.2 ++ k ++ r2.2 ++ v2) :=
      ⟨r1, h1, u1, k ++ r2.2 ++ v2, by rw [hm1, hk1]; simp [List.append_assoc], by simp [List.append_assoc]⟩
    have hok := (hd1.less hL1 hL hR ha.1).1
    obtain ⟨n, hn⟩ := NF.exists hL1 hL hR _ _ (Nat.le_refl _) hok
    exact ⟨n, ⟨Steps.head hd1 hn.1, hn.2⟩, ⟨Steps.head hd2 hn.1, hn.2⟩⟩
  · have hle2 : m.length ≤ r1.1.length := by omega
    obtain ⟨o, ho1, ho2⟩ := append_eq_split hm2.symm hle2
    -- r1.1 = m ++ o, r2.1 ++ v2 = o ++ v1
    have hone : o ≠ [] := by intro e; rw [e, List.append_nil] at ho1; rw [ho1] at hdis; omega
    by_cases hin : r2.1.length ≤ o.length
    · -- r2.1 stands in r1.1
      obtain ⟨k, hk1, hk2⟩ := append_eq_split ho2 hin
      have hocc : Occ r2.1 r1.1 := ⟨m, k, by rw [ho1, hk1]; simp [List.append_assoc]⟩
      have he := hA.eq h2 h1 hocc
      subst he
      have hl := congrArg List.length ho1
      rw [hk1] at hl
      simp at hl
      have hm0 : m = [] := List.length_eq_zero_iff.1 (by omega)
      have hk0 : k = [] := List.length_eq_zero_iff.1 (by omega)
      subst hm0 hk0
      simp at hm1 hk2
      subst hm1 hk2
      obtain ⟨n, hn⟩ := NF.exists hL1 hL hR _ _ (Nat.le_refl _) ha.1
      exact ⟨n, hn, hn⟩
    · obtain ⟨q, hq1, hq2⟩ := append_eq_split ho2.symm (by omega)
      -- r2.1 = o ++ q, v1 = q ++ v2
      have hqne : q ≠ [] := by intro e; rw [e, List.append_nil] at hq1; rw [hq1] at hin; omega
      by_cases hmn : m = []
      · -- r1.1 = o is a head of r2.1
        subst hmn
        simp at ho1
        have hocc : Occ r1.1 r2.1 := ⟨[], q, by rw [hq1, ho1]; simp⟩
        have he := hA.eq h1 h2 hocc
        subst he
        have := congrArg List.length hq1
        rw [ho1] at this
        simp at this
        exact absurd this hqne
      · have hz : x = u1 ++ (m ++ o ++ q) ++ v2 := by rw [e1, ho1, hq2]; simp [List.append_assoc]
        have hlen : (m ++ o ++ q).length ≤ M := by
          have := isWord_len hx; rw [hz] at this; simp at this ⊢; omega
        have hc := hC r1 r2 h1 h2 (fun h => h) (fun h => h) m o q ho1 hq1 hmn hone hqne hlen
        rw [List.append_nil] at hc
        have hox' := hox
        rw [hz] at hox'
        obtain ⟨hou, hoz, hov⟩ := (ok_iff3 L _ _ _).1 hox'
        have key := hc (fun a b => ∀ n, NF R (u1 ++ a ++ v2) n ↔ NF R (u1 ++ b ++ v2) n) ⟨fun _ _ => Iff.rfl, fun _ _ h n => (h n).symm, fun _ _ _ h k n => (h n).trans (k n), ?_⟩
        · have ea : u1 ++ r1.2 ++ v1 = u1 ++ (r1.2 ++ q) ++ v2 := by rw [hq2]; simp [List.append_assoc]
          have eb : u2 ++ r2.2 ++ v2 = u1 ++ (m ++ r2.2) ++ v2 := by rw [hm1]; simp [List.append_assoc]
          obtain ⟨n, hn⟩ := NF.exists hL1 hL hR _ _ (Nat.le_refl _) ha.1
          rw [ea] at hn ⊢
          rw [eb]
          exact ⟨n, hn, (key n).1 hn⟩
        · intro p hp u v hB1 hB2 n
          have hred : Red R (u1 ++ (u ++ p.1 ++ v) ++ v2) (u1 ++ (u ++ p.2 ++ v) ++ v2) := Red.within u1 v2 ⟨p, hp, u, v, rfl, rfl⟩
          have hlt : fold L (u1 ++ (u ++ p.1 ++ v) ++ v2) < fold L x := by rw [hz]; exact fold_within hL u1 v2 hou hov hB1.1 hoz hL1 hB1.2
          have hokp : Ok L (u1 ++ (u ++ p.1 ++ v) ++ v2) := (ok_iff3 L _ _ _).2 ⟨hou, hB1.1, hov⟩
          constructor
          · intro hn
            obtain ⟨n', hn'⟩ := NF.exists hL1 hL hR _ _ (Nat.le_refl _) (hred.less hL1 hL hR hokp).1
            have := hU _ hokp hlt n n' hn ⟨Steps.head hred hn'.1, hn'.2⟩
            rw [this]; exact hn'
          · intro hn
            exact ⟨Steps.head hred hn.1, hn.2⟩

theorem uniq {L M : Nat} (hL1 : 1 ≤ L) (hL : L ≤ 3) {R : List Rl} (hR : RulesOk L M R) (hA : Apart R) (hC : CP L M R [] (fun _ => False)) :
    ∀ (N : Nat) (x : Wd), fold L x ≤ N → isWord L M x = true → ∀ y z, NF R x y → NF R x z → y = z := by
  intro N
  induction N using Nat.strongRecOn with
  | _ N ih =>
    intro x hN hx y z hy hz
    have hU : ∀ w, Ok L w → fold L w < fold L x → ∀ y z, NF R w y → NF R w z → y = z := fun w hw hl y z h k =>
      ih (fold L w) (by omega) w (Nat.le_refl _) (isWord_of_le hL hw hx (by omega)) y z h k
    rcases hy.1.cases with rfl | ⟨a, ha, hay⟩
    · exact hz.1.of_irr hy.2
    · rcases hz.1.cases with rfl | ⟨b, hb, hbz⟩
      · exact absurd ha hz.2.of_red
      · have hla := ha.less hL1 hL hR (isWord_ok hx)
        have hlb := hb.less hL1 hL hR (isWord_ok hx)
        obtain ⟨r1, h1, u1, v1, e1, rfl⟩ := ha
        obtain ⟨r2, h2, u2, v2, e2, rfl⟩ := hb
        have hj : ∃ n, NF R (u1 ++ r1.2 ++ v1) n ∧ NF R (u2 ++ r2.2 ++ v2) n := by
          rcases Nat.le_total u1.length u2.length with hle | hle
          · exact local_conf hL1 hL hR hA hC hx hU h1 h2 e1 e2 hle
          · obtain ⟨n, k1, k2⟩ := local_conf hL1 hL hR hA hC hx hU h2 h1 e2 e1 hle
            exact ⟨n, k2, k1⟩
        obtain ⟨n, k1, k2⟩ := hj
        rw [hU _ hla.1 hla.2 y n ⟨hay, hy.2⟩ k1, hU _ hlb.1 hlb.2 z n ⟨hbz, hz.2⟩ k2]

theorem Steps.eqv {L M : Nat} (hL1 : 1 ≤ L) (hL : L ≤ 3) {said R : List Rl} (hR : RulesOk L M R) (hs : ∀ r, r ∈ R → Eqv L M said r.1 r.2) {x y : Wd} (hx : isWord L M x = true) (h : Steps R x y) : Eqv L M said x y :=
  h (fun a b => isWord L M a = true → Eqv L M said a b) (fun a ha => (eqv_clo L M said).self a ha)
    (fun a b c hr ih ha => by
      have hl := hr.less hL1 hL hR (isWord_ok ha)
      have hb := isWord_of_le hL hl.1 ha (by omega)
      refine (eqv_clo L M said).next _ _ _ ?_ (ih hb)
      obtain ⟨r, hr', u, v, rfl, rfl⟩ := hr
      exact (eqv_clo L M said).within u _ _ v (hs r hr') ha hb) hx

/-- At the end stands the least word that is the same. -/
theorem Fin.least {L M : Nat} (hL1 : 1 ≤ L) (hL : L ≤ 3) {said R : List Rl} (f : Fin L M said R) (hsaid : ∀ p, p ∈ said → isWord L M p.1 = true ∧ isWord L M p.2 = true) {x n : Wd} (hx : isWord L M x = true) (hn : NF R x n) : IsLeast L M said x n := by
  have hR := f.rules
  have hU : ∀ x, isWord L M x = true → ∀ y z, NF R x y → NF R x z → y = z := fun x hx => uniq hL1 hL hR f.apart f.cp _ x (Nat.le_refl _) hx
  have hl := hn.1.less hL1 hL hR (isWord_ok hx)
  refine ⟨isWord_of_le hL hl.1 hx hl.2, hn.1.eqv hL1 hL hR f.sound hx, ?_⟩
  intro y hy he
  have stepIff : ∀ a b, isWord L M a = true → Steps R a b → ∀ n, NF R a n ↔ NF R b n := by
    intro a b ha hab n
    have hb := hab.less hL1 hL hR (isWord_ok ha)
    constructor
    · intro hn
      obtain ⟨n', hn'⟩ := NF.exists hL1 hL hR _ b (Nat.le_refl _) hb.1
      rw [hU a ha n n' hn ⟨hab.trans hn'.1, hn'.2⟩]; exact hn'
    · intro hn; exact ⟨hab.trans hn.1, hn.2⟩
  have key := he (fun a b => isWord L M a = true ∧ isWord L M b = true ∧ ∀ n, NF R a n ↔ NF R b n) ?_
  · have hyn := (key.2.2 n).1 hn
    exact (hyn.1.less hL1 hL hR (isWord_ok hy)).2
  · constructor
    · exact fun x hx => ⟨hx, hx, fun _ => Iff.rfl⟩
    · rintro x y ⟨a, b, c⟩; exact ⟨b, a, fun n => (c n).symm⟩
    · rintro x y z ⟨a, b, c⟩ ⟨a', b', c'⟩; exact ⟨a, b', fun n => (c n).trans (c' n)⟩
    · intro p hp
      refine ⟨(hsaid p hp).1, (hsaid p hp).2, ?_⟩
      refine f.said p hp (fun a b => ∀ n, NF R a n ↔ NF R b n) ⟨fun _ _ => Iff.rfl, fun _ _ h n => (h n).symm, fun _ _ _ h k n => (h n).trans (k n), ?_⟩
      intro r hr u v h1 h2
      exact stepIff _ _ h1 (Steps.one ⟨r, hr, u, v, rfl, rfl⟩)
    · rintro u x y v ⟨a, b, c⟩ h1 h2
      refine ⟨h1, h2, ?_⟩
      obtain ⟨m, hm⟩ := NF.exists hL1 hL hR _ x (Nat.le_refl _) (isWord_ok a)
      have hm2 := (c m).1 hm
      intro n
      exact (stepIff _ _ h1 (hm.1.within u v) n).trans (stepIff _ _ h2 (hm2.1.within u v) n).symm
end Hw
namespace Hw
set_option linter.unusedVariables false
set_option linter.unusedSimpArgs false
open Go (Lib.index Lib.contains Lib.occAt)

theorem occAt_split {s p : Wd} {i : Nat} (h : Go.Lib.occAt s p i = true) : s = s.take i ++ p ++ s.drop (i + p.length) := by
  unfold Go.Lib.occAt at h
  obtain ⟨t, ht⟩ := List.isPrefixOf_iff_prefix.1 h
  have h1 : s = s.take i ++ s.drop i := (List.take_append_drop i s).symm
  have h2 : s.drop (i + p.length) = t := by rw [← List.drop_drop, ← ht, List.drop_left]
  rw [h2, List.append_assoc, ht]; exact h1

theorem index_cases (s p : Wd) : (Go.Lib.index s p = -1 ∧ ∀ i, i ≤ s.length → Go.Lib.occAt s p i = false) ∨ ∃ i : Nat, i ≤ s.length ∧ Go.Lib.index s p = i ∧ Go.Lib.occAt s p i = true := by
  by_cases h : ∃ i, i ≤ s.length ∧ Go.Lib.occAt s p i = true
  · right
    have : ∀ n, (∃ i, i ≤ n ∧ i ≤ s.length ∧ Go.Lib.occAt s p i = true) → ∃ i, i ≤ s.length ∧ Go.Lib.occAt s p i = true ∧ ∀ j, j < i → Go.Lib.occAt s p j = false := by
      intro n
      induction n with
      | zero => rintro ⟨i, h1, h2, h3⟩; exact ⟨i, h2, h3, fun j hj => by omega⟩
      | succ n ih =>
        rintro ⟨i, h1, h2, h3⟩
        by_cases hc : ∃ i, i ≤ n ∧ i ≤ s.length ∧ Go.Lib.occAt s p i = true
        · exact ih hc
        · refine ⟨i, h2, h3, fun j hj => ?_⟩
          cases hb : Go.Lib.occAt s p j with
          | false => rfl
          | true => exact absurd ⟨j, by omega, by omega, hb⟩ hc
    obtain ⟨i, hi, ho⟩ := h
    obtain ⟨k, hk, hko, hkn⟩ := this i ⟨i, Nat.le_refl _, hi, ho⟩
    exact ⟨k, hk, Go.Lib.index_first hk hko hkn, hko⟩
  · left
    have hn : ∀ i, i ≤ s.length → Go.Lib.occAt s p i = false := by
      intro i hi
      cases hb : Go.Lib.occAt s p i with
      | false => rfl
      | true => exact absurd ⟨i, hi, hb⟩ h
    exact ⟨Go.Lib.index_none hn, hn⟩

theorem occAt_of_split {u p v : Wd} : Go.Lib.occAt (u ++ p ++ v) p u.length = true := by
  unfold Go.Lib.occAt
  rw [List.append_assoc, List.drop_left]
  exact List.isPrefixOf_iff_prefix.2 (List.prefix_append p v)

theorem contains_iff (s p : Wd) : Go.Lib.contains s p = true ↔ Occ p s := by
  unfold Go.Lib.contains
  rw [decide_eq_true_eq]
  constructor
  · intro h
    rcases index_cases s p with ⟨h1, _⟩ | ⟨i, _, _, ho⟩
    · omega
    · exact ⟨s.take i, s.drop (i + p.length), occAt_split ho⟩
  · rintro ⟨u, v, rfl⟩
    rcases index_cases (u ++ p ++ v) p with ⟨_, hn⟩ | ⟨i, _, h2, _⟩
    · have := hn u.length (by simp)
      rw [occAt_of_split] at this; cases this
    · omega

def irrB (R : List Rl) (x : Wd) : Bool := R.all fun r => !Go.Lib.contains x r.1
theorem irrB_iff (R : List Rl) (x : Wd) : irrB R x = true ↔ Irr R x := by
  unfold irrB Irr
  rw [List.all_eq_true]
  constructor
  · intro h r hr ho
    have := h r hr
    rw [(contains_iff x r.1).2 ho] at this
    cases this
  · intro h r hr
    cases hb : Go.Lib.contains x r.1 with
    | false => rfl
    | true => exact absurd ((contains_iff x r.1).1 hb) (h r hr)

theorem irr_fst {R R' : List Rl} (h : R'.map Prod.fst = R.map Prod.fst) {x : Wd} (hi : Irr R x) : Irr R' x := by
  intro r hr
  have : r.1 ∈ R'.map Prod.fst := List.mem_map_of_mem hr
  rw [h, List.mem_map] at this
  obtain ⟨r0, h0, e⟩ := this
  rw [← e]; exact hi r0 h0

def cntIrr (L M : Nat) (R : List Rl) : Nat := (upTo L M).countP (irrB R)

theorem irrB_fst {R R' : List Rl} (h : R'.map Prod.fst = R.map Prod.fst) (x : Wd) : irrB R' x = irrB R x := by
  have h1 : irrB R' x = true ↔ irrB R x = true := by rw [irrB_iff, irrB_iff]; exact ⟨irr_fst h.symm, irr_fst h⟩
  cases ha : irrB R' x with
  | true => exact (h1.1 ha).symm
  | false =>
    cases hb : irrB R x with
    | false => rfl
    | true => rw [h1.2 hb] at ha; cases ha

theorem cntIrr_fst {L M : Nat} {R R' : List Rl} (h : R'.map Prod.fst = R.map Prod.fst) : cntIrr L M R' = cntIrr L M R := by
  unfold cntIrr
  exact List.countP_congr fun x _ => by rw [irrB_fst h]

/-! the search: rules, and pairs that wait -/
structure Inv (L M : Nat) (said R E : List Rl) (ex : Wd → Prop) : Prop where
  rules : RulesOk L M R
  sound : ∀ r, r ∈ R → Eqv L M said r.1 r.2
  apart : Apart R
  pend : ∀ p, p ∈ E → isWord L M p.1 = true ∧ isWord L M p.2 = true ∧ Eqv L M said p.1 p.2
  cp : CP L M R E ex
  said : ∀ p, p ∈ said → Conn (fun x => isWord L M x = true) (R ++ E) p.1 p.2

theorem CP.move {L M : Nat} {R R' E E' : List Rl} {ex ex' : Wd → Prop} (h : CP L M R E ex) (hR : ∀ a, a ∈ R' → ¬ ex' a.1 → a ∈ R ∧ ¬ ex a.1)
    (hc : ∀ B, Lower L B → ∀ x y, Conn B (R ++ E) x y → Conn B (R' ++ E') x y) : CP L M R' E' ex' := by
  intro a b ha hb hea heb p o q e1 e2 h1 h2 h3 h4
  exact hc _ (lower_lt L _) _ _ (h a b (hR a ha hea).1 (hR b hb heb).1 (hR a ha hea).2 (hR b hb heb).2 p o q e1 e2 h1 h2 h3 h4)

theorem Inv.start {L M : Nat} (hL : L ≤ 3) {said R : List Rl} (f : Fin L M said R) {l r : Wd} (hl : isWord L M l = true) (hr : isWord L M r = true) : Inv L M (said ++ [(l, r)]) R [(l, r)] (fun _ => False) where
  rules := f.rules
  sound r hr := eqv_more (fun p hp => List.mem_append_left _ hp) (f.sound r hr)
  apart := f.apart
  pend p hp := by
    rw [List.mem_singleton] at hp; subst hp
    exact ⟨hl, hr, (eqv_clo L M _).said (l, r) (by simp)⟩
  cp := f.cp.move (fun a ha hn => ⟨ha, hn⟩) (fun B _ x y h => h.mono (fun p hp => by simpa using Or.inl (by simpa using hp)))
  said p hp := by
    rcases List.mem_append.1 hp with hp | hp
    · exact (f.said p hp).mono fun p hp => List.mem_append_left _ hp
    · rw [List.mem_singleton] at hp; subst hp
      have := (conn_eqc (fun x => isWord L M x = true) (R ++ [(l, r)])).step (l, r) (by simp) [] [] (by simpa using hl) (by simpa using hr)
      simpa using this

theorem Inv.fin {L M : Nat} {said R : List Rl} (h : Inv L M said R [] (fun _ => False)) : Fin L M said R :=
  ⟨h.rules, h.sound, h.apart, h.cp, fun p hp => by have := h.said p hp; rwa [List.append_nil] at this⟩

/-- a pair that waited is looked at: both words come to one. -/
theorem Inv.same {L M : Nat} (hL1 : 1 ≤ L) (hL : L ≤ 3) {said R E E' : List Rl} (h : Inv L M said R E (fun _ => False)) {p : Rl} (h1 : ∀ e, e ∈ E → e = p ∨ e ∈ E') (h2 : ∀ e, e ∈ E' → e ∈ E) {n : Wd} (hn1 : Steps R p.1 n) (hn2 : Steps R p.2 n) :
    Inv L M said R E' (fun _ => False) := by
  have conv : ∀ B, Lower L B → ∀ x y, Conn B (R ++ E) x y → Conn B (R ++ E') x y := by
    intro B hB x y hc
    refine hc.sub fun q hq u v b1 b2 => ?_
    rcases List.mem_append.1 hq with hq | hq
    · exact (conn_eqc B _).step q (List.mem_append_left _ hq) u v b1 b2
    · rcases h1 q hq with rfl | hq
      · exact (conn_eqc B _).trans _ _ _ (conn_steps hL1 hL h.rules (fun r hr => List.mem_append_left _ hr) hB u v hn1 b1)
          ((conn_eqc B _).symm _ _ (conn_steps hL1 hL h.rules (fun r hr => List.mem_append_left _ hr) hB u v hn2 b2))
      · exact (conn_eqc B _).step q (List.mem_append_right _ hq) u v b1 b2
  exact ⟨h.rules, h.sound, h.apart, fun e he => h.pend e (h2 e he), h.cp.move (fun a ha hn => ⟨ha, hn⟩) conv, fun q hq => conv _ (lower_word hL) _ _ (h.said q hq)⟩

/-- a new rule; what stands in the way waits again. -/
theorem Inv.add {L M : Nat} (hL1 : 1 ≤ L) (hL : L ≤ 3) {said R E E1 R1 : List Rl} (h : Inv L M said R E (fun _ => False)) {p : Rl} (hp : p ∈ E) {l r X t : Wd} (hl : NF R p.1 l) (hr : NF R p.2 r)
    (hX : (X = l ∧ t = r) ∨ (X = r ∧ t = l)) (hlt : fold L t < fold L X)
    (hR1 : ∀ a, a ∈ R1 ↔ a ∈ R ∧ ¬ Occ X a.1) (hap : Apart R1)
    (hE1 : ∀ e, e ∈ E → e = p ∨ e ∈ E1) (hE2 : ∀ e, e ∈ E1 → e ∈ E ∨ e ∈ R) (hE3 : ∀ a, a ∈ R → Occ X a.1 → a ∈ E1) :
    Inv L M said (R1 ++ [(X, t)]) E1 (fun x => x = X) ∧ Irr (R1 ++ [(X, t)]) t ∧ Irr R X := by
  obtain ⟨hw1, hw2, heqv⟩ := h.pend p hp
  have C := eqv_clo L M said
  have okl := hl.1.less hL1 hL h.rules (isWord_ok hw1)
  have okr := hr.1.less hL1 hL h.rules (isWord_ok hw2)
  have wl := isWord_of_le hL okl.1 hw1 okl.2
  have wr := isWord_of_le hL okr.1 hw2 okr.2
  have el := hl.1.eqv hL1 hL h.rules h.sound hw1
  have er := hr.1.eqv hL1 hL h.rules h.sound hw2
  have elr : Eqv L M said l r := C.next _ _ _ (C.back _ _ el) (C.next _ _ _ heqv er)
  have hXw : isWord L M X = true := by rcases hX with ⟨rfl, _⟩ | ⟨rfl, _⟩ <;> assumption
  have htw : isWord L M t = true := by rcases hX with ⟨_, rfl⟩ | ⟨_, rfl⟩ <;> assumption
  have hXi : Irr R X := by rcases hX with ⟨rfl, _⟩ | ⟨rfl, _⟩; exact hl.2; exact hr.2
  have hti : Irr R t := by rcases hX with ⟨_, rfl⟩ | ⟨_, rfl⟩; exact hr.2; exact hl.2
  have hXt : Eqv L M said X t := by rcases hX with ⟨rfl, rfl⟩ | ⟨rfl, rfl⟩; exact elr; exact C.back _ _ elr
  have hrules : RulesOk L M (R1 ++ [(X, t)]) := by
    refine ⟨?_, ?_, ?_⟩ <;> intro a ha <;> rcases List.mem_append.1 ha with ha | ha
    · exact h.rules.from_ a ((hR1 a).1 ha).1
    · rw [List.mem_singleton] at ha; subst ha; exact hXw
    · exact h.rules.to_ a ((hR1 a).1 ha).1
    · rw [List.mem_singleton] at ha; subst ha; exact htw
    · exact h.rules.less a ((hR1 a).1 ha).1
    · rw [List.mem_singleton] at ha; subst ha; exact hlt
  have hsub : ∀ a, a ∈ R → a ∈ (R1 ++ [(X, t)]) ++ E1 := by
    intro a ha
    by_cases ho : Occ X a.1
    · exact List.mem_append_right _ (hE3 a ha ho)
    · exact List.mem_append_left _ (List.mem_append_left _ ((hR1 a).2 ⟨ha, ho⟩))
  have conv : ∀ B, Lower L B → ∀ x y, Conn B (R ++ E) x y → Conn B ((R1 ++ [(X, t)]) ++ E1) x y := by
    intro B hB x y hc
    refine hc.sub fun q hq u v b1 b2 => ?_
    rcases List.mem_append.1 hq with hq | hq
    · exact (conn_eqc B _).step q (hsub q hq) u v b1 b2
    · rcases hE1 q hq with rfl | hq
      · have c1 := conn_steps hL1 hL h.rules hsub hB u v hl.1 b1
        have c2 := conn_steps hL1 hL h.rules hsub hB u v hr.1 b2
        obtain ⟨ou, oq, ov⟩ := (ok_iff3 L _ _ _).1 (hB.1 _ b1)
        obtain ⟨_, oq2, _⟩ := (ok_iff3 L _ _ _).1 (hB.1 _ b2)
        have bl : B (u ++ l ++ v) := hB.2 _ _ b1 ((ok_iff3 L _ _ _).2 ⟨ou, okl.1, ov⟩) (fold_within_le hL1 hL u v ou ov okl.1 oq okl.2)
        have br : B (u ++ r ++ v) := hB.2 _ _ b2 ((ok_iff3 L _ _ _).2 ⟨ou, okr.1, ov⟩) (fold_within_le hL1 hL u v ou ov okr.1 oq2 okr.2)
        have hmem : (X, t) ∈ (R1 ++ [(X, t)]) ++ E1 := by simp
        have c3 : Conn B ((R1 ++ [(X, t)]) ++ E1) (u ++ l ++ v) (u ++ r ++ v) := by
          rcases hX with ⟨rfl, rfl⟩ | ⟨rfl, rfl⟩
          · exact (conn_eqc B _).step (X, t) hmem u v bl br
          · exact (conn_eqc B _).symm _ _ ((conn_eqc B _).step (X, t) hmem u v br bl)
        exact (conn_eqc B _).trans _ _ _ c1 ((conn_eqc B _).trans _ _ _ c3 ((conn_eqc B _).symm _ _ c2))
      · exact (conn_eqc B _).step q (List.mem_append_right _ hq) u v b1 b2
  have htX : ¬ Occ X t := by
    rintro ⟨u, v, e⟩
    have hX' := (isWord_iff L M X).1 hXw
    have ht' := (isWord_iff L M t).1 htw
    have hle : X.length ≤ t.length := by rw [e]; simp; omega
    have hle2 := length_le_of_fold hL ht'.1 hX'.1 (Nat.le_of_lt hlt)
    have hl := congrArg List.length e
    simp at hl
    have hu : u = [] := List.length_eq_zero_iff.1 (by omega)
    have hv : v = [] := List.length_eq_zero_iff.1 (by omega)
    subst hu hv
    simp at e
    rw [e] at hlt; omega
  refine ⟨⟨hrules, ?_, ?_, ?_, ?_, ?_⟩, ?_, hXi⟩
  · intro a ha
    rcases List.mem_append.1 ha with ha | ha
    · exact h.sound a ((hR1 a).1 ha).1
    · rw [List.mem_singleton] at ha; subst ha; exact hXt
  · unfold Apart
    rw [List.pairwise_append]
    refine ⟨hap, List.pairwise_singleton _ _, ?_⟩
    intro a ha b hb
    rw [List.mem_singleton] at hb; subst hb
    exact ⟨hXi a ((hR1 a).1 ha).1, ((hR1 a).1 ha).2⟩
  · intro e he
    rcases hE2 e he with he | he
    · exact h.pend e he
    · exact ⟨h.rules.from_ e he, h.rules.to_ e he, h.sound e he⟩
  · refine h.cp.move (fun a ha hn => ?_) conv
    rcases List.mem_append.1 ha with ha | ha
    · exact ⟨((hR1 a).1 ha).1, fun h => h⟩
    · rw [List.mem_singleton] at ha; subst ha; exact absurd rfl hn
  · exact fun q hq => conv _ (lower_word hL) _ _ (h.said q hq)
  · intro a ha
    rcases List.mem_append.1 ha with ha | ha
    · exact hti a ((hR1 a).1 ha).1
    · rw [List.mem_singleton] at ha; subst ha; exact htX

theorem fold_occ {L : Nat} (hL1 : 1 ≤ L) (hL : L ≤ 3) {u f v : Wd} (h : Ok L (u ++ f ++ v)) : fold L f ≤ fold L (u ++ f ++ v) := by
  obtain ⟨h1, h2, h3⟩ := (ok_iff3 L _ _ _).1 h
  by_cases he : u ++ f ++ v = f
  · rw [he]; exact Nat.le_refl _
  · refine Nat.le_of_lt (fold_lt_of_length hL h2 h ?_)
    have : u ≠ [] ∨ v ≠ [] := by
      by_cases hu : u = []
      · right; intro hv; subst hu hv; simp at he
      · exact Or.inl hu
    simp
    rcases this with h | h
    · have := List.length_pos_iff.2 h; omega
    · have := List.length_pos_iff.2 h; omega

/-- the less word of a rule is made less. -/
theorem Inv.reduce {L M : Nat} (hL1 : 1 ≤ L) (hL : L ≤ 3) {said A C E : List Rl} {f t t' : Wd} {ex : Wd → Prop} (h : Inv L M said (A ++ (f, t) :: C) E ex) (hs : Steps (A ++ (f, t) :: C) t t') : Inv L M said (A ++ (f, t') :: C) E ex := by
  have hmem : (f, t) ∈ A ++ (f, t) :: C := by simp
  have hft := h.rules.less _ hmem
  have htw := h.rules.to_ _ hmem
  have hfw := h.rules.from_ _ hmem
  have hsub0 : ∀ a, a ∈ A ++ C → a ∈ A ++ (f, t) :: C := by
    intro a ha; rcases List.mem_append.1 ha with ha | ha
    · exact List.mem_append_left _ ha
    · exact List.mem_append_right _ (List.mem_cons_of_mem _ ha)
  have hR0 : RulesOk L M (A ++ C) := ⟨fun r hr => h.rules.from_ r (hsub0 r hr), fun r hr => h.rules.to_ r (hsub0 r hr), fun r hr => h.rules.less r (hsub0 r hr)⟩
  have hs' : Steps (A ++ C) t t' :=
    hs (fun a b => Ok L a → fold L a < fold L f → Steps (A ++ C) a b) (fun a _ _ => Steps.refl _ _)
      (fun a b c hr ih ha hlt => by
        have hl := hr.less hL1 hL h.rules ha
        refine Steps.head ?_ (ih hl.1 (by omega))
        obtain ⟨r, hr', u, v, rfl, rfl⟩ := hr
        refine ⟨r, ?_, u, v, rfl, rfl⟩
        rcases List.mem_append.1 hr' with hr' | hr'
        · exact List.mem_append_left _ hr'
        · rcases List.mem_cons.1 hr' with rfl | hr'
          · have := fold_occ hL1 hL ha; exact absurd hlt (by simp at *; omega)
          · exact List.mem_append_right _ hr') (isWord_ok htw) hft
  have hl := hs'.less hL1 hL hR0 (isWord_ok htw)
  have htw' := isWord_of_le hL hl.1 htw hl.2
  have hmem' : (f, t') ∈ A ++ (f, t') :: C := by simp
  have hsub : ∀ a, a ∈ A ++ C → a ∈ (A ++ (f, t') :: C) ++ E := by
    intro a ha; refine List.mem_append_left _ ?_; rcases List.mem_append.1 ha with ha | ha
    · exact List.mem_append_left _ ha
    · exact List.mem_append_right _ (List.mem_cons_of_mem _ ha)
  have cases_ : ∀ a, a ∈ A ++ (f, t') :: C → a = (f, t') ∨ a ∈ A ++ C := by
    intro a ha; rcases List.mem_append.1 ha with ha | ha
    · exact Or.inr (List.mem_append_left _ ha)
    · rcases List.mem_cons.1 ha with rfl | ha
      · exact Or.inl rfl
      · exact Or.inr (List.mem_append_right _ ha)
  have conv : ∀ B, Lower L B → ∀ x y, Conn B ((A ++ (f, t) :: C) ++ E) x y → Conn B ((A ++ (f, t') :: C) ++ E) x y := by
    intro B hB x y hc
    refine hc.sub fun q hq u v b1 b2 => ?_
    rcases List.mem_append.1 hq with hq | hq
    · rcases List.mem_append.1 hq with hq | hq
      · exact (conn_eqc B _).step q (hsub q (List.mem_append_left _ hq)) u v b1 b2
      · rcases List.mem_cons.1 hq with rfl | hq
        · obtain ⟨ou, oq, ov⟩ := (ok_iff3 L _ _ _).1 (hB.1 _ b2)
          have b3 : B (u ++ t' ++ v) := hB.2 _ _ b2 ((ok_iff3 L _ _ _).2 ⟨ou, hl.1, ov⟩) (fold_within_le hL1 hL u v ou ov hl.1 oq hl.2)
          exact (conn_eqc B _).trans _ _ _ ((conn_eqc B _).step (f, t') (List.mem_append_left _ hmem') u v b1 b3) ((conn_eqc B _).symm _ _ (conn_steps hL1 hL hR0 hsub hB u v hs' b2))
        · exact (conn_eqc B _).step q (hsub q (List.mem_append_right _ hq)) u v b1 b2
    · exact (conn_eqc B _).step q (List.mem_append_right _ hq) u v b1 b2
  have hte : Eqv L M said t t' := hs'.eqv hL1 hL hR0 (fun r hr => h.sound r (hsub0 r hr)) htw
  refine ⟨⟨?_, ?_, ?_⟩, ?_, ?_, h.pend, ?_, fun q hq => conv _ (lower_word hL) _ _ (h.said q hq)⟩
  · intro a ha; rcases cases_ a ha with rfl | ha
    · exact hfw
    · exact hR0.from_ a ha
  · intro a ha; rcases cases_ a ha with rfl | ha
    · exact htw'
    · exact hR0.to_ a ha
  · intro a ha; rcases cases_ a ha with rfl | ha
    · show fold L t' < fold L f
      exact Nat.lt_of_le_of_lt hl.2 hft
    · exact hR0.less a ha
  · intro a ha; rcases cases_ a ha with rfl | ha
    · exact (eqv_clo L M said).next _ _ _ (h.sound (f, t) hmem) hte
    · exact h.sound a (hsub0 a ha)
  · have := h.apart
    unfold Apart at this ⊢
    rw [List.pairwise_append, List.pairwise_cons] at this ⊢
    obtain ⟨p1, ⟨p2, p3⟩, p4⟩ := this
    refine ⟨p1, ⟨p2, p3⟩, fun a ha b hb => ?_⟩
    rcases List.mem_cons.1 hb with rfl | hb
    · exact p4 a ha (f, t) List.mem_cons_self
    · exact p4 a ha b (List.mem_cons_of_mem _ hb)
  · intro a b ha hb hea heb p o q e1 e2 n1 n2 n3 hlen
    -- the rules that stood there before
    have old : ∀ a, a ∈ A ++ (f, t') :: C → ∃ a0, a0 ∈ A ++ (f, t) :: C ∧ a0.1 = a.1 ∧ Steps (A ++ C) a0.2 a.2 := by
      intro a ha; rcases cases_ a ha with rfl | ha
      · exact ⟨(f, t), hmem, rfl, hs'⟩
      · exact ⟨a, hsub0 a ha, rfl, Steps.refl _ _⟩
    obtain ⟨a0, ha0, ea, sa⟩ := old a ha
    obtain ⟨b0, hb0, eb, sb⟩ := old b hb
    have hc := conv _ (lower_lt L (p ++ o ++ q)) _ _ (h.cp a0 b0 ha0 hb0 (by rw [ea]; exact hea) (by rw [eb]; exact heb) p o q (by rw [ea]; exact e1) (by rw [eb]; exact e2) n1 n2 n3 hlen)
    have wa := h.rules.from_ a0 ha0
    have wb := h.rules.from_ b0 hb0
    rw [ea, e1] at wa
    rw [eb, e2] at wb
    obtain ⟨op, oo⟩ := (ok_iff2 L _ _).1 (isWord_ok wa)
    obtain ⟨_, oq⟩ := (ok_iff2 L _ _).1 (isWord_ok wb)
    have oa := isWord_ok (h.rules.to_ a0 ha0)
    have ob := isWord_ok (h.rules.to_ b0 hb0)
    have la : fold L (a0.2 ++ q) < fold L (p ++ o ++ q) := by
      have := fold_within hL [] q (by rfl) oq oa ((ok_iff2 L _ _).2 ⟨op, oo⟩) hL1 (by have := h.rules.less a0 ha0; rw [ea, e1] at this; exact this)
      simpa using this
    have lb : fold L (p ++ b0.2) < fold L (p ++ o ++ q) := by
      have := fold_within hL p [] op (by rfl) ob ((ok_iff2 L _ _).2 ⟨oo, oq⟩) hL1 (by have := h.rules.less b0 hb0; rw [eb, e2] at this; exact this)
      simpa [List.append_assoc] using this
    have c1 := conn_steps hL1 hL hR0 hsub (lower_lt L (p ++ o ++ q)) [] q sa (by rw [List.nil_append]; exact ⟨(ok_iff2 L _ _).2 ⟨oa, oq⟩, la⟩)
    have c2 := conn_steps hL1 hL hR0 hsub (lower_lt L (p ++ o ++ q)) p [] sb (by rw [List.append_nil]; exact ⟨(ok_iff2 L _ _).2 ⟨op, ob⟩, lb⟩)
    simp only [List.nil_append, List.append_nil] at c1 c2
    exact (conn_eqc _ _).trans _ _ _ ((conn_eqc _ _).symm _ _ c1) ((conn_eqc _ _).trans _ _ _ hc c2)

/-- what two rules make of one word waits too. -/
theorem Inv.cross {L M : Nat} (hL1 : 1 ≤ L) (hL : L ≤ 3) {said R E E' : List Rl} {X : Wd} (h : Inv L M said R E (fun x => x = X)) (h1 : ∀ e, e ∈ E → e ∈ E')
    (h2 : ∀ e, e ∈ E' → e ∈ E ∨ ∃ a b, a ∈ R ∧ b ∈ R ∧ ∃ p o q, a.1 = p ++ o ∧ b.1 = o ++ q ∧ (p ++ o ++ q).length ≤ M ∧ e = (a.2 ++ q, p ++ b.2))
    (h3 : ∀ a b, a ∈ R → b ∈ R → (a.1 = X ∨ b.1 = X) → ∀ p o q, a.1 = p ++ o → b.1 = o ++ q → p ≠ [] → o ≠ [] → q ≠ [] → (p ++ o ++ q).length ≤ M → (a.2 ++ q, p ++ b.2) ∈ E') :
    Inv L M said R E' (fun _ => False) := by
  have C := eqv_clo L M said
  have conv : ∀ B, Lower L B → ∀ x y, Conn B (R ++ E) x y → Conn B (R ++ E') x y := by
    intro B hB x y hc
    refine hc.mono fun e he => ?_
    rcases List.mem_append.1 he with he | he
    · exact List.mem_append_left _ he
    · exact List.mem_append_right _ (h1 e he)
  have parts : ∀ a b, a ∈ R → b ∈ R → ∀ p o q, a.1 = p ++ o → b.1 = o ++ q → (p ++ o ++ q).length ≤ M →
      isWord L M (p ++ o ++ q) = true ∧ (Ok L (a.2 ++ q) ∧ fold L (a.2 ++ q) < fold L (p ++ o ++ q)) ∧ (Ok L (p ++ b.2) ∧ fold L (p ++ b.2) < fold L (p ++ o ++ q)) := by
    intro a b ha hb p o q e1 e2 hlen
    have wa := h.rules.from_ a ha
    have wb := h.rules.from_ b hb
    rw [e1] at wa
    rw [e2] at wb
    obtain ⟨op, oo⟩ := (ok_iff2 L _ _).1 (isWord_ok wa)
    obtain ⟨_, oq⟩ := (ok_iff2 L _ _).1 (isWord_ok wb)
    have oa := isWord_ok (h.rules.to_ a ha)
    have ob := isWord_ok (h.rules.to_ b hb)
    refine ⟨(isWord_iff L M _).2 ⟨(ok_iff3 L _ _ _).2 ⟨op, oo, oq⟩, hlen⟩, ⟨(ok_iff2 L _ _).2 ⟨oa, oq⟩, ?_⟩, ⟨(ok_iff2 L _ _).2 ⟨op, ob⟩, ?_⟩⟩
    · have := fold_within hL [] q (by rfl) oq oa ((ok_iff2 L _ _).2 ⟨op, oo⟩) hL1 (by have := h.rules.less a ha; rw [e1] at this; exact this)
      simpa using this
    · have := fold_within hL p [] op (by rfl) ob ((ok_iff2 L _ _).2 ⟨oo, oq⟩) hL1 (by have := h.rules.less b hb; rw [e2] at this; exact this)
      simpa [List.append_assoc] using this
  refine ⟨h.rules, h.sound, h.apart, ?_, ?_, fun q hq => conv _ (lower_word hL) _ _ (h.said q hq)⟩
  · intro e he
    rcases h2 e he with he | ⟨a, b, ha, hb, p, o, q, e1, e2, hlen, rfl⟩
    · exact h.pend e he
    · obtain ⟨wz, pa, pb⟩ := parts a b ha hb p o q e1 e2 hlen
      have w1 := isWord_of_le hL pa.1 wz (Nat.le_of_lt pa.2)
      have w2 := isWord_of_le hL pb.1 wz (Nat.le_of_lt pb.2)
      refine ⟨w1, w2, ?_⟩
      have s1 := C.within [] _ _ q (h.sound a ha) (by rw [e1]; simpa using wz) (by simpa using w1)
      have s2 := C.within p _ _ [] (h.sound b hb) (by rw [e2]; simpa [List.append_assoc] using wz) (by simpa using w2)
      rw [e1] at s1
      rw [e2] at s2
      simp only [List.nil_append, List.append_nil] at s1 s2
      rw [← List.append_assoc] at s2
      exact C.next _ _ _ (C.back _ _ s1) s2
  · intro a b ha hb _ _ p o q e1 e2 n1 n2 n3 hlen
    by_cases hx : a.1 = X ∨ b.1 = X
    · obtain ⟨_, pa, pb⟩ := parts a b ha hb p o q e1 e2 hlen
      have := (conn_eqc (fun x => Ok L x ∧ fold L x < fold L (p ++ o ++ q)) (R ++ E')).step (a.2 ++ q, p ++ b.2) (List.mem_append_right _ (h3 a b ha hb hx p o q e1 e2 n1 n2 n3 hlen)) [] [] (by simpa using pa) (by simpa using pb)
      simpa using this
    · exact conv _ (lower_lt L _) _ _ (h.cp a b ha hb (fun e => hx (Or.inl e)) (fun e => hx (Or.inr e)) p o q e1 e2 n1 n2 n3 hlen)

theorem cnt_add {L M : Nat} {R R1 : List Rl} {X t : Wd} (hR1 : ∀ a, a ∈ R1 ↔ a ∈ R ∧ ¬ Occ X a.1) (hXi : Irr R X) (hXw : X ∈ upTo L M) : cntIrr L M (R1 ++ [(X, t)]) < cntIrr L M R := by
  unfold cntIrr
  have gen : ∀ (l : List Wd), X ∈ l → l.countP (irrB (R1 ++ [(X, t)])) < l.countP (irrB R) := by
    intro l
    have imp : ∀ x, irrB (R1 ++ [(X, t)]) x = true → irrB R x = true := by
      intro x hx
      rw [irrB_iff] at hx ⊢
      intro a ha ho
      by_cases hd : Occ X a.1
      · obtain ⟨u, v, e⟩ := ho
        obtain ⟨u', v', e'⟩ := hd
        exact hx (X, t) (by simp) ⟨u ++ u', v' ++ v, by rw [e, e']; simp [List.append_assoc]⟩
      · exact hx a (List.mem_append_left _ ((hR1 a).2 ⟨ha, hd⟩)) ho
    have hXt : irrB R X = true := (irrB_iff _ _).2 hXi
    have hXf : irrB (R1 ++ [(X, t)]) X = false := by
      cases hb : irrB (R1 ++ [(X, t)]) X with
      | false => rfl
      | true => exact absurd ⟨[], [], by simp⟩ ((irrB_iff _ _).1 hb (X, t) (by simp))
    induction l with
    | nil => intro h; cases h
    | cons a l ih =>
      intro h
      rw [List.countP_cons, List.countP_cons]
      have hle : l.countP (irrB (R1 ++ [(X, t)])) ≤ l.countP (irrB R) := List.countP_mono_left fun y _ => imp y
      rcases List.mem_cons.1 h with rfl | h'
      · rw [hXt, hXf]; simp; omega
      · have := ih h'
        cases hb : irrB (R1 ++ [(X, t)]) a with
        | true => rw [imp a hb]; simp; omega
        | false => simp; split <;> omega
  exact gen _ hXw
end Hw
namespace Hw
set_option linter.unusedVariables false
set_option linter.unusedSimpArgs false
/-! The rules: there is one such set alone. -/
theorem sorted_uniq {α : Type} (f : α → Nat) : ∀ (l l' : List α), (l.Pairwise fun a b => f a < f b) → (l'.Pairwise fun a b => f a < f b) → (∀ x, x ∈ l ↔ x ∈ l') → l = l'
  | [], [], _, _, _ => rfl
  | [], b :: l', _, _, h => absurd ((h b).2 List.mem_cons_self) (by simp)
  | a :: l, [], _, _, h => absurd ((h a).1 List.mem_cons_self) (by simp)
  | a :: l, b :: l', h1, h2, h => by
    rw [List.pairwise_cons] at h1 h2
    have hab : a = b := by
      rcases List.mem_cons.1 ((h a).1 List.mem_cons_self) with e | ha
      · exact e
      · rcases List.mem_cons.1 ((h b).2 List.mem_cons_self) with e | hb
        · exact e.symm
        · have := h2.1 a ha; have := h1.1 b hb; omega
    subst hab
    rw [sorted_uniq f l l' h1.2 h2.2 fun x => ⟨fun hx => ?_, fun hx => ?_⟩]
    · rcases List.mem_cons.1 ((h x).1 (List.mem_cons_of_mem _ hx)) with e | hx'
      · subst e; have := h1.1 x hx; omega
      · exact hx'
    · rcases List.mem_cons.1 ((h x).2 (List.mem_cons_of_mem _ hx)) with e | hx'
      · subst e; have := h2.1 x hx; omega
      · exact hx'

structure TheRule (L M : Nat) (said : List Rl) (f t : Wd) : Prop where
  word : isWord L M f = true
  not_ : ¬ IsLeast L M said f f
  parts : ∀ p, Occ p f → p ≠ f → IsLeast L M said p p
  to_ : IsLeast L M said f t

structure RulesAns (L M : Nat) (said l : List Rl) : Prop where
  mem : ∀ r, r ∈ l ↔ TheRule L M said r.1 r.2
  sorted : l.Pairwise fun a b => fold L a.1 < fold L b.1

theorem RulesAns.uniq {L M : Nat} {said l l' : List Rl} (h : RulesAns L M said l) (h' : RulesAns L M said l') : l = l' :=
  sorted_uniq (fun r => fold L r.1) l l' h.sorted h'.sorted fun r => (h.mem r).trans (h'.mem r).symm

theorem Occ.trans {a b c : Wd} (h : Occ a b) (k : Occ b c) : Occ a c := by
  obtain ⟨u, v, rfl⟩ := h
  obtain ⟨u', v', rfl⟩ := k
  exact ⟨u' ++ u, v ++ v', by simp [List.append_assoc]⟩
theorem Occ.len {a b : Wd} (h : Occ a b) : a.length ≤ b.length := by
  obtain ⟨u, v, rfl⟩ := h; simp; omega
theorem Occ.eq {a b : Wd} (h : Occ a b) (hl : b.length ≤ a.length) : a = b := by
  obtain ⟨u, v, rfl⟩ := h
  simp at hl
  have hu : u = [] := List.length_eq_zero_iff.1 (by omega)
  have hv : v = [] := List.length_eq_zero_iff.1 (by omega)
  simp [hu, hv]
theorem Occ.word {L M : Nat} {a b : Wd} (h : Occ a b) (hb : isWord L M b = true) : isWord L M a = true := by
  obtain ⟨u, v, rfl⟩ := h; exact isWord_piece hb

theorem Fin.irr_least {L M : Nat} (hL1 : 1 ≤ L) (hL : L ≤ 3) {said R : List Rl} (f : Fin L M said R) (hsaid : ∀ p, p ∈ said → isWord L M p.1 = true ∧ isWord L M p.2 = true) {x : Wd} (hx : isWord L M x = true) : Irr R x ↔ IsLeast L M said x x := by
  constructor
  · intro h; exact f.least hL1 hL hsaid hx ⟨Steps.refl _ _, h⟩
  · intro h r hr ho
    obtain ⟨u, v, e⟩ := ho
    have hred : Red R x (u ++ r.2 ++ v) := ⟨r, hr, u, v, e, rfl⟩
    have hl := hred.less hL1 hL f.rules (isWord_ok hx)
    have hw := isWord_of_le hL hl.1 hx (Nat.le_of_lt hl.2)
    have := h.least _ hw ((Steps.one hred).eqv hL1 hL f.rules f.sound hx)
    omega

theorem Fin.theRule {L M : Nat} (hL1 : 1 ≤ L) (hL : L ≤ 3) {said R : List Rl} (f : Fin L M said R) (hsaid : ∀ p, p ∈ said → isWord L M p.1 = true ∧ isWord L M p.2 = true) (hT : ∀ r, r ∈ R → Irr R r.2) (r : Rl) : r ∈ R ↔ TheRule L M said r.1 r.2 := by
  have one : ∀ r, r ∈ R → TheRule L M said r.1 r.2 := by
    intro r hr
    have hw := f.rules.from_ r hr
    refine ⟨hw, ?_, ?_, ?_⟩
    · intro h
      have := h.least _ (f.rules.to_ r hr) (f.sound r hr)
      have := f.rules.less r hr
      omega
    · intro p hp hne
      refine (f.irr_least hL1 hL hsaid (hp.word hw)).1 ?_
      intro r' hr' ho
      have he := f.apart.eq hr' hr (ho.trans hp)
      subst he
      exact hne (hp.eq ho.len)
    · exact f.least hL1 hL hsaid hw ⟨Steps.one ⟨r, hr, [], [], by simp, by simp⟩, hT r hr⟩
  refine ⟨one r, fun h => ?_⟩
  by_cases hi : Irr R r.1
  · exact absurd ((f.irr_least hL1 hL hsaid h.word).1 hi) h.not_
  · have : ∃ r', r' ∈ R ∧ Occ r'.1 r.1 := by
      apply Classical.byContradiction
      intro hn
      exact hi fun r' hr' ho => hn ⟨r', hr', ho⟩
    obtain ⟨r', hr', ho⟩ := this
    have h' := one r' hr'
    have he : r'.1 = r.1 := by
      apply Classical.byContradiction
      intro hne
      exact h'.not_ (h.parts _ ho hne)
    have ht : r'.2 = r.2 := by
      have := h'.to_
      rw [he] at this
      exact this.uniq hL h.to_
    have : r' = r := Prod.ext he ht
    rw [← this]; exact hr'

theorem Fin.rulesAns {L M : Nat} (hL1 : 1 ≤ L) (hL : L ≤ 3) {said R l : List Rl} (f : Fin L M said R) (hsaid : ∀ p, p ∈ said → isWord L M p.1 = true ∧ isWord L M p.2 = true) (hT : ∀ r, r ∈ R → Irr R r.2)
    (hm : ∀ r, r ∈ l ↔ r ∈ R) (hs : l.Pairwise fun a b => fold L a.1 < fold L b.1) : RulesAns L M said l :=
  ⟨fun r => (hm r).trans (f.theRule hL1 hL hsaid hT r), hs⟩

def ToIrr (R : List Rl) : Prop := ∀ r, r ∈ R → Irr R r.2
def ToTo (R : List Rl) (i : Nat) : Prop := ∀ j (h : j < R.length), j < i → Irr R (R[j]).2
theorem ToTo.zero (R : List Rl) : ToTo R 0 := fun j _ h => absurd h (Nat.not_lt_zero _)
theorem ToTo.step {R : List Rl} {i : Nat} (h : ToTo R i) (hi : i < R.length) {t : Wd} (hn : Irr R t) : ToTo (R.set i ((R[i]).1, t)) (i + 1) := by
  have hm : (R.set i ((R[i]).1, t)).map Prod.fst = R.map Prod.fst := by
    rw [List.map_set]
    apply List.ext_getElem
    · simp
    · intro n h1 h2
      rw [List.getElem_set]
      split
      · next e => subst e; simp
      · rfl
  intro j hj hji
  refine irr_fst hm ?_
  rw [List.getElem_set]
  split
  · exact hn
  · next e => exact h j (by simpa using hj) (by omega)
theorem ToTo.all {R : List Rl} {i : Nat} (h : ToTo R i) (hi : R.length ≤ i) : ToIrr R := by
  intro r hr
  obtain ⟨j, hj, e⟩ := List.getElem_of_mem hr
  rw [← e]; exact h j hj (by omega)
theorem ToIrr.nil : ToIrr [] := fun r hr => absurd hr (by simp)

/-! the document's rules -/
theorem Done.fixed_iff {L M : Nat} (hL : L ≤ 3) {said : List Rl} {xs : List Nat} (d : Done L M said xs) (hsaid : ∀ p, p ∈ said → isWord L M p.1 = true ∧ isWord L M p.2 = true) {x : Wd} (hx : isWord L M x = true) :
    of xs (fold L x) = fold L x ↔ IsLeast L M said x x := by
  have h := d.least hL hsaid hx
  constructor
  · intro e; rw [e, wordAt_fold hL hx] at h; exact h
  · intro k
    have e := h.uniq hL k
    have hl : of xs (fold L x) < (upTo L M).length := by
      have := d.good.le (fold L x) (by rw [d.good.len]; exact fold_lt_length hL hx)
      have := fold_lt_length hL hx
      omega
    have := congrArg (fold L) e
    rwa [fold_wordAt hL hl] at this

theorem occ_iff_piece (p s : Wd) : Occ p s ↔ ∃ a t, a ≤ t ∧ t ≤ s.length ∧ p = (s.take t).drop a := by
  constructor
  · rintro ⟨u, v, rfl⟩
    refine ⟨u.length, u.length + p.length, by omega, by simp, ?_⟩
    rw [List.take_append_of_le_length (by simp), List.take_of_length_le (by simp)]; simp
  · rintro ⟨a, t, h1, h2, rfl⟩
    refine ⟨s.take a, s.drop t, ?_⟩
    have h3 : s.take a = (s.take t).take a := by rw [List.take_take]; congr 1; omega
    rw [h3, List.take_append_drop, List.take_append_drop]

def Whole (L M : Nat) (xs : List Nat) (i : Nat) : Prop := ∀ a t, a ≤ t → t ≤ (wordAt L M i).length → of xs (fold L (((wordAt L M i).take t).drop a)) = fold L (((wordAt L M i).take t).drop a)

theorem whole_iff {L M : Nat} (hL : L ≤ 3) {said : List Rl} {xs : List Nat} (d : Done L M said xs) (hsaid : ∀ p, p ∈ said → isWord L M p.1 = true ∧ isWord L M p.2 = true) {x : Wd} (hx : isWord L M x = true) :
    Whole L M xs (fold L x) ↔ ∀ p, Occ p x → IsLeast L M said p p := by
  unfold Whole
  rw [wordAt_fold hL hx]
  constructor
  · intro h p hp
    have hpw := hp.word hx
    obtain ⟨a, t, h1, h2, rfl⟩ := (occ_iff_piece p x).1 hp
    exact (d.fixed_iff hL hsaid hpw).1 (h a t h1 h2)
  · intro h a t h1 h2
    have ho := (occ_iff_piece ((x.take t).drop a) x).2 ⟨a, t, h1, h2, rfl⟩
    exact (d.fixed_iff hL hsaid (ho.word hx)).2 (h _ ho)

theorem occ_proper {p w : Wd} (h : Occ p w) (hne : p ≠ w) : Occ p (w.drop 1) ∨ Occ p (w.take (w.length - 1)) := by
  obtain ⟨u, v, rfl⟩ := h
  match u with
  | c :: u => exact Or.inl ⟨u, v, by simp⟩
  | [] =>
    right
    have hv : v ≠ [] := by rintro rfl; simp at hne
    have hl := List.length_pos_iff.2 hv
    refine ⟨[], v.take (v.length - 1), ?_⟩
    rw [List.nil_append, List.take_append]
    congr 1
    · exact List.take_of_length_le (by simp; omega)
    · congr 1; simp; omega

theorem occ_drop1 (w : Wd) : Occ (w.drop 1) w := ⟨w.take 1, [], by rw [List.append_nil, List.take_append_drop]⟩
theorem occ_take1 (w : Wd) : Occ (w.take (w.length - 1)) w := ⟨[], w.drop (w.length - 1), by simp⟩

/-- which of the words has a rule, by the document. -/
def RefCond (L M : Nat) (xs : List Nat) (i : Nat) : Prop :=
  of xs i ≠ i ∧ wordAt L M i ≠ [] ∧ Whole L M xs (fold L ((wordAt L M i).drop 1)) ∧ Whole L M xs (fold L ((wordAt L M i).take ((wordAt L M i).length - 1)))

theorem least_nil {L M : Nat} (said : List Rl) : IsLeast L M said [] [] := by
  have hw : isWord L M [] = true := (isWord_iff L M []).2 ⟨rfl, Nat.zero_le _⟩
  exact ⟨hw, (eqv_clo L M said).self _ hw, fun y _ _ => by simp [fold]⟩

theorem refCond_iff {L M : Nat} (hL : L ≤ 3) {said : List Rl} {xs : List Nat} (d : Done L M said xs) (hsaid : ∀ p, p ∈ said → isWord L M p.1 = true ∧ isWord L M p.2 = true) {i : Nat} (hi : i < (upTo L M).length) :
    RefCond L M xs i ↔ TheRule L M said (wordAt L M i) (wordAt L M (of xs i)) := by
  have hw := wordAt_word hL hi
  have hf := fold_wordAt hL hi
  have hlst := d.least hL hsaid hw
  have hfix := d.fixed_iff hL hsaid hw
  rw [hf] at hlst hfix
  unfold RefCond
  rw [whole_iff hL d hsaid ((occ_drop1 _).word hw), whole_iff hL d hsaid ((occ_take1 _).word hw)]
  constructor
  · rintro ⟨h1, h2, h3, h4⟩
    refine ⟨hw, fun h => h1 (hfix.2 h), fun p hp hne => ?_, hlst⟩
    rcases occ_proper hp hne with h | h
    · exact h3 p h
    · exact h4 p h
  · intro h
    have hne : wordAt L M i ≠ [] := by
      intro e
      exact h.not_ (by rw [e]; exact least_nil said)
    have hl := List.length_pos_iff.2 hne
    refine ⟨fun e => h.not_ (hfix.1 e), hne, fun p hp => ?_, fun p hp => ?_⟩
    · refine h.parts p (hp.trans (occ_drop1 _)) (fun e => ?_)
      have := hp.len; rw [e] at this; simp at this; omega
    · refine h.parts p (hp.trans (occ_take1 _)) (fun e => ?_)
      have := hp.len; rw [e] at this; simp at this; omega

/-- a list of the document's rules of the words ahead of one. -/
structure RefRules (L M : Nat) (xs : List Nat) (i : Nat) (l : List Rl) : Prop where
  mem : ∀ r, r ∈ l ↔ ∃ k, k < i ∧ RefCond L M xs k ∧ r = (wordAt L M k, wordAt L M (of xs k))
  sorted : l.Pairwise fun a b => fold L a.1 < fold L b.1

theorem RefRules.zero (L M : Nat) (xs : List Nat) : RefRules L M xs 0 [] := ⟨fun r => by simp, List.Pairwise.nil⟩
theorem RefRules.skip {L M : Nat} {xs : List Nat} {i : Nat} {l : List Rl} (h : RefRules L M xs i l) (hc : ¬ RefCond L M xs i) : RefRules L M xs (i + 1) l := by
  refine ⟨fun r => (h.mem r).trans ⟨fun ⟨k, h1, h2, h3⟩ => ⟨k, by omega, h2, h3⟩, fun ⟨k, h1, h2, h3⟩ => ⟨k, ?_, h2, h3⟩⟩, h.sorted⟩
  rcases Nat.lt_or_ge k i with h' | h'
  · exact h'
  · have : k = i := by omega
    subst this; exact absurd h2 hc
theorem RefRules.more {L M : Nat} (hL : L ≤ 3) {xs : List Nat} {i : Nat} {l : List Rl} (h : RefRules L M xs i l) (hi : i < (upTo L M).length) (hc : RefCond L M xs i) : RefRules L M xs (i + 1) (l ++ [(wordAt L M i, wordAt L M (of xs i))]) := by
  refine ⟨fun r => ?_, ?_⟩
  · rw [List.mem_append, List.mem_singleton, h.mem r]
    constructor
    · rintro (⟨k, h1, h2, h3⟩ | rfl)
      · exact ⟨k, by omega, h2, h3⟩
      · exact ⟨i, by omega, hc, rfl⟩
    · rintro ⟨k, h1, h2, h3⟩
      rcases Nat.lt_or_ge k i with h' | h'
      · exact Or.inl ⟨k, h', h2, h3⟩
      · have : k = i := by omega
        subst this; exact Or.inr h3
  · rw [List.pairwise_append]
    refine ⟨h.sorted, List.pairwise_singleton _ _, ?_⟩
    intro a ha b hb
    rw [List.mem_singleton] at hb; subst hb
    obtain ⟨k, h1, _, rfl⟩ := (h.mem a).1 ha
    show fold L (wordAt L M k) < fold L (wordAt L M i)
    rw [fold_wordAt hL hi, fold_wordAt hL (by omega)]; exact h1

theorem RefRules.ans {L M : Nat} (hL : L ≤ 3) {said : List Rl} {xs : List Nat} {l : List Rl} (d : Done L M said xs) (hsaid : ∀ p, p ∈ said → isWord L M p.1 = true ∧ isWord L M p.2 = true) {i : Nat} (h : RefRules L M xs i l) (hi : i = (upTo L M).length) : RulesAns L M said l := by
  subst hi
  refine ⟨fun r => (h.mem r).trans ⟨?_, fun hr => ?_⟩, h.sorted⟩
  · rintro ⟨k, h1, h2, rfl⟩
    exact (refCond_iff hL d hsaid h1).1 h2
  · have hk := fold_lt_length hL hr.word
    have e1 := wordAt_fold hL hr.word
    have e2 : r.2 = wordAt L M (of xs (fold L r.1)) := hr.to_.uniq hL (d.least hL hsaid hr.word)
    refine ⟨fold L r.1, hk, (refCond_iff hL d hsaid hk).2 ?_, ?_⟩
    · rw [e1, ← e2]; exact hr
    · rw [e1, ← e2]

/-! how many words are least -/
theorem upTo_eq_map (L M : Nat) : upTo L M = (List.range (upTo L M).length).map (wordAt L M) := by
  apply List.ext_getElem
  · simp
  · intro n h1 h2
    simp [wordAt, h1]

theorem cnt_eq {L M : Nat} (hL1 : 1 ≤ L) (hL : L ≤ 3) {said R : List Rl} {xs : List Nat} (d : Done L M said xs) (f : Fin L M said R) (hsaid : ∀ p, p ∈ said → isWord L M p.1 = true ∧ isWord L M p.2 = true) : cnt xs = cntIrr L M R := by
  unfold cnt cntIrr
  rw [upTo_eq_map, List.countP_map, d.good.len]
  refine List.countP_congr fun k hk => ?_
  rw [List.mem_range] at hk
  have hw := wordAt_word hL hk
  have h1 := d.fixed_iff hL hsaid hw
  rw [fold_wordAt hL hk] at h1
  have h2 := f.irr_least hL1 hL hsaid hw
  rw [beq_iff_eq, Function.comp_apply, irrB_iff]
  exact h1.trans h2.symm
end Hw
namespace Hw
set_option linter.unusedVariables false
set_option linter.unusedSimpArgs false
/-! how two words stand -/
theorem fold_cons (L : Nat) (c : UInt8) (s : Wd) : fold L (c :: s) = (c.toNat - 97 + 1) * L ^ s.length + fold L s := by
  unfold fold
  rw [List.foldl_cons, foldl_eq]
  have : 0 * L + (c.toNat - 97) + 1 = c.toNat - 97 + 1 := by omega
  rw [this]; rfl

theorem fold_bounds {L : Nat} (hL1 : 1 ≤ L) (hL : L ≤ 3) (s : Wd) (h : s.all (okc L) = true) : off L s.length ≤ fold L s ∧ fold L s < off L s.length + L ^ s.length := fold_range hL s h

theorem compare_same {L : Nat} (hL1 : 1 ≤ L) (hL : L ≤ 3) : ∀ (s t : Wd), s.all (okc L) = true → t.all (okc L) = true → s.length = t.length →
    Go.Lib.compareBytes s t = if fold L s < fold L t then -1 else if fold L t < fold L s then 1 else 0
  | [], [], _, _, _ => by simp [Go.Lib.compareBytes]
  | [], _ :: _, _, _, h => by simp at h
  | _ :: _, [], _, _, h => by simp at h
  | a :: s, b :: t, hs, ht, hl => by
    rw [List.all_cons, Bool.and_eq_true] at hs ht
    have hl' : s.length = t.length := by simpa using hl
    have ih := compare_same hL1 hL s t hs.2 ht.2 hl'
    have hbs := fold_bounds hL1 hL s hs.2
    have hbt := fold_bounds hL1 hL t ht.2
    have ha := hs.1; have hb := ht.1
    simp [okc] at ha hb
    unfold Go.Lib.compareBytes
    rw [fold_cons, fold_cons, hl'] 
    rw [hl'] at hbs
    generalize hP : L ^ t.length = P at *
    have hP1 : 1 ≤ P := by rw [← hP]; exact Nat.one_le_pow _ _ hL1
    by_cases hab : a < b
    · rw [if_pos hab]
      have h1 : a.toNat < b.toNat := UInt8.lt_iff_toNat_lt.1 hab
      have h2 : (a.toNat - 97 + 1) * P + P ≤ (b.toNat - 97 + 1) * P := by
        have : (a.toNat - 97 + 1 + 1) * P ≤ (b.toNat - 97 + 1) * P := Nat.mul_le_mul_right _ (by omega)
        rw [Nat.add_mul (a.toNat - 97 + 1) 1] at this; omega
      rw [if_pos (by omega)]
    · rw [if_neg hab]
      by_cases hba : b < a
      · rw [if_pos hba]
        have h1 : b.toNat < a.toNat := UInt8.lt_iff_toNat_lt.1 hba
        have h2 : (b.toNat - 97 + 1) * P + P ≤ (a.toNat - 97 + 1) * P := by
          have : (b.toNat - 97 + 1 + 1) * P ≤ (a.toNat - 97 + 1) * P := Nat.mul_le_mul_right _ (by omega)
          rw [Nat.add_mul (b.toNat - 97 + 1) 1] at this; omega
        rw [if_neg (by omega), if_pos (by omega)]
      · rw [if_neg hba, ih]
        have hc : a.toNat = b.toNat := by
          have h1 : ¬ a.toNat < b.toNat := fun h => hab (UInt8.lt_iff_toNat_lt.2 h)
          have h2 : ¬ b.toNat < a.toNat := fun h => hba (UInt8.lt_iff_toNat_lt.2 h)
          omega
        rw [hc]
        simp only [Nat.add_lt_add_iff_left]

def stand (L : Nat) (s t : Wd) : Nat := if fold L s < fold L t then 1 else if fold L t < fold L s then 2 else 0

theorem orInt (L : Nat) {s t : Wd} (hL1 : 1 ≤ L) (hL : L ≤ 3) (hs : s.all (okc L) = true) (ht : t.all (okc L) = true) :
    (if Go.Lib.compareInt s.length t.length = 0 then Go.Lib.compareBytes s t else Go.Lib.compareInt s.length t.length) = if fold L s < fold L t then -1 else if fold L t < fold L s then 1 else 0 := by
  unfold Go.Lib.compareInt
  by_cases h1 : (s.length : Int) < t.length
  · have := fold_lt_of_length hL hs ht (by omega)
    simp [h1, this]
  · by_cases h2 : (t.length : Int) < s.length
    · have := fold_lt_of_length hL ht hs (by omega)
      simp [h1, h2, this]; omega
    · have hl : s.length = t.length := by omega
      have h3 : ¬ (s.length : Int) > t.length := by omega
      rw [if_neg h1, if_neg h3, if_pos rfl]
      exact compare_same hL1 hL s t hs ht hl
end Hw
namespace Hw
set_option linter.unusedVariables false
set_option linter.unusedSimpArgs false
/-! Rules in another order. -/
theorem Irr.perm {R R' : List Rl} (h : R'.Perm R) {x : Wd} (hi : Irr R x) : Irr R' x := fun r hr => hi r (h.mem_iff.1 hr)
theorem irrB_perm {R R' : List Rl} (h : R'.Perm R) (x : Wd) : irrB R' x = irrB R x := by
  rw [Bool.eq_iff_iff, irrB_iff, irrB_iff]
  exact ⟨Irr.perm h.symm, Irr.perm h⟩
theorem cntIrr_perm {L M : Nat} {R R' : List Rl} (h : R'.Perm R) : cntIrr L M R' = cntIrr L M R := by
  unfold cntIrr
  rw [show irrB R' = irrB R from funext (irrB_perm h)]
theorem ToIrr.perm {R R' : List Rl} (h : R'.Perm R) (ht : ToIrr R) : ToIrr R' := fun r hr => Irr.perm h (ht r (h.mem_iff.1 hr))
theorem Conn.perm {B : Wd → Prop} {T T' : List Rl} (h : T'.Perm T) {x y : Wd} (hc : Conn B T x y) : Conn B T' x y :=
  hc.sub fun p hp u v h1 h2 => (conn_eqc B T').step p (h.mem_iff.2 hp) u v h1 h2
theorem Apart.perm {R R' : List Rl} (h : R'.Perm R) (ha : Apart R) : Apart R' :=
  (List.Perm.pairwise_iff (fun {x y} h => ⟨h.2, h.1⟩) h).2 ha
theorem Fin.perm {L M : Nat} {said R R' : List Rl} (h : R'.Perm R) (f : Fin L M said R) : Fin L M said R' where
  rules := ⟨fun r hr => f.rules.from_ r (h.mem_iff.1 hr), fun r hr => f.rules.to_ r (h.mem_iff.1 hr), fun r hr => f.rules.less r (h.mem_iff.1 hr)⟩
  sound := fun r hr => f.sound r (h.mem_iff.1 hr)
  apart := f.apart.perm h
  cp := f.cp.move (fun a ha hx => ⟨h.mem_iff.1 ha, hx⟩) (fun B _ x y hc => hc.perm (h.append (List.Perm.refl _)))
  said := fun p hp => (f.said p hp).perm h

/-- The least word first. -/
def Rises (L : Nat) (R : List Rl) : Prop := R.Pairwise fun a b => fold L a.1 < fold L b.1
theorem Rises.nil (L : Nat) : Rises L [] := List.Pairwise.nil

/-- No two rules are from one word: a list that rises, rises strictly. -/
theorem sorted_strict {L M : Nat} (hL1 : 1 ≤ L) (hL : L ≤ 3) {R : List Rl} (ha : Apart R) (hR : ∀ r, r ∈ R → isWord L M r.1 = true) (hs : R.Pairwise fun a b => fold L a.1 ≤ fold L b.1) : R.Pairwise fun a b => fold L a.1 < fold L b.1 := by
  induction R with
  | nil => exact List.Pairwise.nil
  | cons r R ih =>
    rw [Apart, List.pairwise_cons] at ha
    rw [List.pairwise_cons] at hs ⊢
    refine ⟨fun b hb => ?_, ih ha.2 (fun x hx => hR x (List.mem_cons_of_mem _ hx)) hs.2⟩
    have h1 := hs.1 b hb
    rcases Nat.lt_or_ge (fold L r.1) (fold L b.1) with h | h
    · exact h
    · exfalso
      have e : fold L r.1 = fold L b.1 := by omega
      have hw1 := hR r (by simp)
      have hw2 := hR b (List.mem_cons_of_mem _ hb)
      obtain ⟨k1, e1⟩ := at_fold hL M _ hw1
      obtain ⟨k2, e2⟩ := at_fold hL M _ hw2
      have : r.1 = b.1 := by rw [← e1, ← e2]; simp only [e]
      exact (ha.1 b hb).1 ⟨[], [], by simp [this]⟩

/-! Count: words that no rule turns, each of one that is there, and a letter. -/
theorem occ_snoc {p w : Wd} {d : UInt8} : Occ p (w ++ [d]) ↔ Occ p w ∨ p <:+ w ++ [d] := by
  constructor
  · rintro ⟨u, v, h⟩
    rcases List.eq_nil_or_concat v with rfl | ⟨v', c, rfl⟩
    · exact Or.inr ⟨u, by simpa using h.symm⟩
    · left
      rw [List.concat_eq_append, ← List.append_assoc] at h
      have := List.append_inj_left' h rfl
      exact ⟨u, v', this⟩
  · rintro (⟨u, v, rfl⟩ | ⟨u, h⟩)
    · exact ⟨u, v ++ [d], by simp⟩
    · exact ⟨u, [], by simp [h]⟩

theorem irr_snoc {R : List Rl} {w : Wd} {d : UInt8} (hw : Irr R w) : Irr R (w ++ [d]) ↔ ∀ r, r ∈ R → ¬ r.1 <:+ w ++ [d] := by
  constructor
  · intro h r hr hs
    exact h r hr (occ_snoc.2 (Or.inr hs))
  · intro h r hr ho
    rcases occ_snoc.1 ho with h1 | h1
    · exact hw r hr h1
    · exact h r hr h1

theorem irr_init {R : List Rl} {w : Wd} {d : UInt8} (h : Irr R (w ++ [d])) : Irr R w := fun r hr ho => h r hr (occ_snoc.2 (Or.inl ho))

theorem word_snoc {L M : Nat} {w : Wd} {d : UInt8} : isWord L M (w ++ [d]) = true ↔ (isWord L M w = true ∧ okc L d = true) ∧ w.length < M := by
  rw [isWord_iff, isWord_iff]
  simp [Ok, List.all_append]
  constructor
  · rintro ⟨⟨a, b⟩, c⟩; exact ⟨⟨⟨a, by omega⟩, b⟩, by omega⟩
  · rintro ⟨⟨⟨a, _⟩, b⟩, c⟩; exact ⟨⟨a, b⟩, by omega⟩

def chr (d : Nat) : UInt8 := UInt8.ofNat (97 + d)
theorem chr_toNat {d : Nat} (h : d < 3) : (chr d).toNat = 97 + d := by
  unfold chr; simp; omega
theorem chr_ok {L d : Nat} (hL : L ≤ 3) (h : d < L) : okc L (chr d) = true := by
  simp [okc, chr_toNat (show d < 3 by omega)]; omega
theorem ok_chr {L : Nat} (hL : L ≤ 3) {c : UInt8} (h : okc L c = true) : ∃ d, d < L ∧ c = chr d := by
  simp [okc] at h
  refine ⟨c.toNat - 97, by omega, ?_⟩
  apply UInt8.toNat_inj.1
  rw [chr_toNat (by omega)]; omega
theorem fold_chr {L d : Nat} (w : Wd) (h : d < 3) : fold L (w ++ [chr d]) = fold L w * L + d + 1 := by
  rw [fold_snoc, chr_toNat h]; omega

/-- The words P are done; w is at work, and of its letters c are done. -/
structure CIn (L M : Nat) (R : List Rl) (P : List Wd) (w : Wd) (Q : List Wd) (c : Nat) : Prop where
  srt : (P ++ w :: Q).Pairwise fun a b => fold L a < fold L b
  good : ∀ x, x ∈ P ++ w :: Q → isWord L M x = true ∧ Irr R x
  nil : [] ∈ P ++ w :: Q
  done : ∀ p d, p ∈ P → isWord L M (p ++ [d]) = true → Irr R (p ++ [d]) → p ++ [d] ∈ P ++ w :: Q
  now : ∀ d, d < c → Irr R (w ++ [chr d]) → w ++ [chr d] ∈ P ++ w :: Q
  from_ : ∀ y, y ∈ P ++ w :: Q → y = [] ∨ (∃ p d, p ∈ P ∧ d < L ∧ y = p ++ [chr d]) ∨ ∃ d, d < c ∧ y = w ++ [chr d]

/-- The words P are done, those of Q are not. -/
structure CInv (L M : Nat) (R : List Rl) (P Q : List Wd) : Prop where
  srt : (P ++ Q).Pairwise fun a b => fold L a < fold L b
  good : ∀ x, x ∈ P ++ Q → isWord L M x = true ∧ Irr R x
  nil : [] ∈ P ++ Q
  done : ∀ p d, p ∈ P → isWord L M (p ++ [d]) = true → Irr R (p ++ [d]) → p ++ [d] ∈ P ++ Q
  from_ : ∀ y, y ∈ P ++ Q → y = [] ∨ ∃ p d, p ∈ P ∧ d < L ∧ y = p ++ [chr d]

theorem isWord_nil (L M : Nat) : isWord L M [] = true := by rw [isWord_iff]; simp [Ok]

theorem CInv.start {L M : Nat} {R : List Rl} (h : RulesOk L M R) : CInv L M R [] [[]] where
  srt := by simp
  good := by
    intro x hx
    have hx : x = [] := by simpa using hx
    subst hx
    refine ⟨isWord_nil L M, ?_⟩
    rintro r hr ⟨u, v, e⟩
    have h1 : r.1 = [] := by
      have := congrArg List.length e
      simp at this
      exact List.length_eq_zero_iff.1 (by omega)
    have := h.less r hr
    rw [h1] at this
    simp [fold] at this
  nil := by simp
  done := by simp
  from_ := by simp

theorem CInv.enter {L M : Nat} {R : List Rl} {P Q : List Wd} {w : Wd} (h : CInv L M R P (w :: Q)) : CIn L M R P w Q 0 where
  srt := h.srt
  good := h.good
  nil := h.nil
  done := h.done
  now := fun d hd => absurd hd (Nat.not_lt_zero _)
  from_ := fun y hy => (h.from_ y hy).imp_right Or.inl

theorem CIn.leave {L M : Nat} (hL : L ≤ 3) {R : List Rl} {P Q : List Wd} {w : Wd} (h : CIn L M R P w Q L) : CInv L M R (P ++ [w]) Q where
  srt := by simpa using h.srt
  good := by simpa using h.good
  nil := by simpa using h.nil
  done := by
    intro p d hp hw hi
    have e : P ++ [w] ++ Q = P ++ w :: Q := by simp
    rw [e]
    rcases List.mem_append.1 hp with hp | hp
    · exact h.done p d hp hw hi
    · have hp : p = w := by simpa using hp
      subst hp
      obtain ⟨k, hk, rfl⟩ := ok_chr hL (word_snoc.1 hw).1.2
      exact h.now k hk hi
  from_ := by
    intro y hy
    have e : P ++ [w] ++ Q = P ++ w :: Q := by simp
    rw [e] at hy
    rcases h.from_ y hy with h1 | ⟨p, d, hp, hd, h1⟩ | ⟨d, hd, h1⟩
    · exact Or.inl h1
    · exact Or.inr ⟨p, d, by simp [hp], hd, h1⟩
    · exact Or.inr ⟨w, d, by simp, hd, h1⟩

theorem CIn.skip {L M : Nat} {R : List Rl} {P Q : List Wd} {w : Wd} {c : Nat} (h : CIn L M R P w Q c) (hi : ¬ Irr R (w ++ [chr c])) : CIn L M R P w Q (c + 1) where
  srt := h.srt
  good := h.good
  nil := h.nil
  done := h.done
  now := by
    intro d hd hx
    rcases Nat.lt_or_ge d c with h1 | h1
    · exact h.now d h1 hx
    · have : d = c := by omega
      subst this
      exact absurd hx hi
  from_ := fun y hy => by
    rcases h.from_ y hy with h1 | h1 | ⟨d, hd, h1⟩
    · exact Or.inl h1
    · exact Or.inr (Or.inl h1)
    · exact Or.inr (Or.inr ⟨d, by omega, h1⟩)

theorem CIn.more {L M : Nat} (hL : L ≤ 3) {R : List Rl} {P Q : List Wd} {w : Wd} {c : Nat} (h : CIn L M R P w Q c) (hc : c < L) (hlen : w.length < M) (hi : Irr R (w ++ [chr c])) : CIn L M R P w (Q ++ [w ++ [chr c]]) (c + 1) := by
  have e : P ++ w :: (Q ++ [w ++ [chr c]]) = (P ++ w :: Q) ++ [w ++ [chr c]] := by simp
  have hww := h.good w (by simp)
  have hfc := fold_chr (L := L) w (show c < 3 by omega)
  constructor
  · rw [e, List.pairwise_append]
    refine ⟨h.srt, by simp, ?_⟩
    intro y hy b hb
    have hb : b = w ++ [chr c] := by simpa using hb
    subst hb
    rw [hfc]
    rcases h.from_ y hy with rfl | ⟨p, d, hp, hd, rfl⟩ | ⟨d, hd, rfl⟩
    · simp [fold]
    · rw [fold_chr p (by omega)]
      have h1 : fold L p < fold L w := (List.pairwise_append.1 h.srt).2.2 p hp w (by simp)
      have h2 : fold L p * L + L ≤ fold L w * L := by
        have := Nat.mul_le_mul_right L (show fold L p + 1 ≤ fold L w by omega)
        rw [Nat.add_mul] at this; omega
      omega
    · rw [fold_chr w (by omega)]; omega
  · rw [e]
    intro x hx
    rcases List.mem_append.1 hx with hx | hx
    · exact h.good x hx
    · have hx : x = w ++ [chr c] := by simpa using hx
      subst hx
      exact ⟨word_snoc.2 ⟨⟨hww.1, chr_ok hL hc⟩, hlen⟩, hi⟩
  · rw [e]; exact List.mem_append_left _ h.nil
  · rw [e]; exact fun p d h1 h2 h3 => List.mem_append_left _ (h.done p d h1 h2 h3)
  · rw [e]
    intro d hd hx
    rcases Nat.lt_or_ge d c with h1 | h1
    · exact List.mem_append_left _ (h.now d h1 hx)
    · have : d = c := by omega
      subst this
      simp
  · rw [e]
    intro y hy
    rcases List.mem_append.1 hy with hy | hy
    · rcases h.from_ y hy with h1 | h1 | ⟨d, hd, h1⟩
      · exact Or.inl h1
      · exact Or.inr (Or.inl h1)
      · exact Or.inr (Or.inr ⟨d, by omega, h1⟩)
    · exact Or.inr (Or.inr ⟨c, by omega, by simpa using hy⟩)

theorem sorted_upTo {L : Nat} (hL : L ≤ 3) (n : Nat) : (upTo L n).Pairwise fun a b => fold L a < fold L b := by
  have h : ((upTo L n).map (fold L)).Pairwise (· < ·) := by
    rw [fold_upTo hL n]; exact List.pairwise_lt_range'
  exact List.pairwise_map.1 h

/-- At the end: all words are there that no rule turns. -/
theorem CInv.count {L M : Nat} (hL : L ≤ 3) {R : List Rl} {P Q : List Wd} (h : CInv L M R P Q) (hend : ∀ w Q', Q = w :: Q' → M ≤ w.length) : (P ++ Q).length = cntIrr L M R := by
  have hall : ∀ n, ∀ x : Wd, x.length ≤ n → isWord L M x = true → Irr R x → x ∈ P ++ Q := by
    intro n
    induction n with
    | zero =>
      intro x hx _ _
      have e : x = [] := List.length_eq_zero_iff.1 (by omega)
      subst e
      exact h.nil
    | succ n ih =>
      intro x hx hw hi
      rcases List.eq_nil_or_concat x with rfl | ⟨p, d, rfl⟩
      · exact h.nil
      · rw [List.concat_eq_append] at *
        have hw' := word_snoc.1 hw
        have hp := ih p (by simp at hx; omega) hw'.1.1 (irr_init hi)
        rcases List.mem_append.1 hp with hp | hp
        · exact h.done p d hp hw hi
        · exfalso
          have hm := hw'.2
          cases Q with
          | nil => cases hp
          | cons w Q' =>
            have hl := hend w Q' rfl
            rcases List.mem_cons.1 hp with rfl | hp
            · omega
            · have h1 := ((List.pairwise_append.1 h.srt).2.1)
              rw [List.pairwise_cons] at h1
              have h2 := h1.1 p hp
              have g1 := h.good w (by simp)
              have g2 := h.good p (by simp [hp])
              have b1 := fold_range hL w (isWord_ok g1.1)
              have b2 := fold_range hL p (isWord_ok g2.1)
              have h3 : off L (p.length + 1) ≤ off L w.length := off_mono L (by omega)
              omega
  unfold cntIrr
  rw [List.countP_eq_length_filter]
  congr 1
  refine sorted_uniq (fold L) _ _ h.srt ((sorted_upTo hL M).filter _) fun x => ?_
  rw [List.mem_filter, mem_upTo hL, irrB_iff]
  exact ⟨fun hx => h.good x hx, fun hx => hall x.length x (Nat.le_refl _) hx.1 hx.2⟩

theorem CIn.le {L M : Nat} (hL : L ≤ 3) {R : List Rl} {P Q : List Wd} {w : Wd} {c : Nat} (h : CIn L M R P w Q c) : (P ++ w :: Q).length ≤ cntIrr L M R := by
  unfold cntIrr
  rw [List.countP_eq_length_filter]
  have e : P ++ w :: Q = ((upTo L M).filter (irrB R)).filter fun x => decide (x ∈ P ++ w :: Q) := by
    refine sorted_uniq (fold L) _ _ h.srt (((sorted_upTo hL M).filter _).filter _) fun x => ?_
    rw [List.mem_filter, List.mem_filter, mem_upTo hL, irrB_iff, decide_eq_true_iff]
    exact ⟨fun hx => ⟨h.good x hx, hx⟩, fun hx => hx.2⟩
  rw [e]
  exact List.length_filter_le _ _
end Hw
