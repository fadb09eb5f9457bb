import Derived.Test.YtfiebibpgbadlaaGreatSi
namespace Go.Proofs.YtfiebibpgbadlaaGreat
open Go.RowKit
set_option linter.unusedVariables false
set_option linter.unusedSimpArgs false
namespace Dr

/-- A kind, as it lies. -/
structure KM where
  k : Nat
  rv : Value
  ws : List Hw.Wd
  m : Hw.Wd
def KM.ke (A : KM) : Hw.KE := ⟨A.k, A.ws, A.m⟩
def kes (K : List KM) : List Hw.KE := K.map KM.ke
def pv (p : Nat × Nat) : Value := .agg #[.pointer (some ⟨p.1, 0, none⟩), .int .i64 (p.2 : Int)]
/-- where words stand, as a map keeps it. -/
def PlM (w : World) (pm n : Nat) (P : Hw.Pl) : Prop := ∃ F, MapIs w 9 pm n F ∧ ∀ s : Hw.Wd, F (.string s) = (P s).map pv

structure KAt (w : World) (base : Nat) (A : KM) : Prop where
  blk : w.heap[A.k]? = some (.cells #[A.rv, .string ⟨A.m.toArray⟩] 153 (0, 0))
  own : StrsAt w base A.rv A.ws
  low : base ≤ A.k

/-- A drawing, as it lies. -/
structure DMn (w : World) (base d bm L M pm qb : Nat) (lv iv : Value) (said : List Hw.Rl) (ls : List Hw.Ln) (P : Hw.Pl) (K : List KM) (Q : List Hw.Wd) (n : Nat) : Prop where
  sh : Sh w base d bm L M pm qb lv said ls
  pl : PlM w pm n P
  q : Qs.QAt w base qb iv Q
  kd : ∀ A, A ∈ K → KAt w base A
  sep : ∀ A B, A ∈ K → B ∈ K → A.k ≠ B.k → ∀ g, A.rv.ownBlock = some g → B.rv.ownBlock ≠ some g
  seq : ∀ A, A ∈ K → ∀ g, A.rv.ownBlock = some g → iv.ownBlock ≠ some g
  ne : pm ≠ bm
  lo : base ≤ d ∧ base ≤ bm ∧ base ≤ pm ∧ base ≤ qb
  size : base ≤ w.heap.size

abbrev DM (w : World) (base d bm L M pm qb : Nat) (lv iv : Value) (said : List Hw.Rl) (ls : List Hw.Ln) (P : Hw.Pl) (K : List KM) (Q : List Hw.Wd) : Prop := DMn w base d bm L M pm qb lv iv said ls P K Q (Hw.nw (kes K) + Hw.sF (kes K))

theorem PlM.kept {w w' : World} {pm n : Nat} {P : Hw.Pl} {S : List Nat} (h : PlM w pm n P) (hK : Kept S w w') (hn : pm ∉ S) : PlM w' pm n P := by
  obtain ⟨F, h1, h2⟩ := h
  exact ⟨F, h1.kept hK hn, h2⟩
theorem PlM.obj {w : World} {pm n : Nat} {P : Hw.Pl} (h : PlM w pm n P) : ∃ es cl, w.heap[pm]? = some (.map es cl) := by
  obtain ⟨F, h1, _⟩ := h
  exact h1.obj
theorem KAt.kept {w w' : World} {base : Nat} {A : KM} {S : List Nat} (h : KAt w base A) (hK : Kept S w w') (h1 : A.k ∉ S) (h2 : ∀ k, k ∈ S → A.rv.ownBlock ≠ some k) : KAt w' base A :=
  ⟨hK.at h.blk h1, h.own.kept hK h2, h.low⟩

/-- Blocks of other sorts are written. -/
theorem DMn.kept {w w' : World} {base d bm L M pm qb n : Nat} {lv iv : Value} {said : List Hw.Rl} {ls : List Hw.Ln} {P : Hw.Pl} {K : List KM} {Q : List Hw.Wd} {S : List Nat} (h : DMn w base d bm L M pm qb lv iv said ls P K Q n) (hK : Kept S w w') (hS : ∀ k, k ∈ S → w.heap.size ≤ k) : DMn w' base d bm L M pm qb lv iv said ls P K Q n := by
  have hK0 : Kept [] w w' := hK.mono (fun k hk hl => by have := hS k hk; omega)
  exact ⟨h.sh.kept hK0 (by simp) (by simp) (by simp), h.pl.kept hK0 (by simp), h.q.kept hK0 (by simp) (by simp), fun A hA => (h.kd A hA).kept hK0 (by simp) (by simp), h.sep, h.seq, h.ne, h.lo, Nat.le_trans h.size hK.size⟩
theorem DMn.below {w w' : World} {base d bm L M pm qb n : Nat} {lv iv : Value} {said : List Hw.Rl} {ls : List Hw.Ln} {P : Hw.Pl} {K : List KM} {Q : List Hw.Wd} (h : DMn w base d bm L M pm qb lv iv said ls P K Q n) (hb : Below w.heap.size w w') : DMn w' base d bm L M pm qb lv iv said ls P K Q n :=
  h.kept (S := []) (Kept.of_below_size hb) (by simp)
theorem DMn.same {w w' : World} {base d bm L M pm qb n : Nat} {lv iv : Value} {said : List Hw.Rl} {ls : List Hw.Ln} {P : Hw.Pl} {K : List KM} {Q : List Hw.Wd} (h : DMn w base d bm L M pm qb lv iv said ls P K Q n) (hs : SameW w w') : DMn w' base d bm L M pm qb lv iv said ls P K Q n :=
  h.kept (S := []) (hs.kept []) (by simp)

/-- the sheet moves. -/
theorem DMn.sheet {w w' : World} {base d bm L M pm qb m n : Nat} {lv lv' iv : Value} {said : List Hw.Rl} {ls ls' : List Hw.Ln} {P : Hw.Pl} {K : List KM} {Q : List Hw.Wd} (h : DMn w base d bm L M pm qb lv iv said ls P K Q n) (hs : ShS w w' base d bm L M pm qb lv lv' said ls ls' m) :
    DMn w' base d bm L M pm qb lv' iv said ls' P K Q n ∧ Below base w w' := by
  obtain ⟨es, cl, hpm⟩ := h.pl.obj
  obtain ⟨F, hF, _⟩ := h.sh.bk
  obtain ⟨es2, cl2, hbm⟩ := hF.obj
  have hty : ∀ k, k ∈ d :: bm :: lv.ownBlock.toList → base ≤ k ∧ (k = bm ∨ ∃ c t fr, w.heap[k]? = some (.cells c t fr) ∧ (t = 118 ∨ t = 54)) := by
    intro k hk
    simp only [List.mem_cons] at hk
    rcases hk with rfl | rfl | hk
    · exact ⟨h.lo.1, .inr ⟨_, _, _, h.sh.blk, .inl rfl⟩⟩
    · exact ⟨h.lo.2.1, .inl rfl⟩
    · obtain ⟨h1, cur, h2⟩ := LinesAt.type h.sh.own (by simpa using hk)
      exact ⟨h1, .inr ⟨_, _, _, h2, .inr rfl⟩⟩
  have hcell : ∀ k c t fr, w.heap[k]? = some (.cells c t fr) → t ≠ 118 → t ≠ 54 → k ∉ d :: bm :: lv.ownBlock.toList := by
    intro k c t fr e n1 n2 hm
    rcases (hty k hm).2 with rfl | ⟨c', t', fr', e', h'⟩
    · rw [hbm] at e; cases e
    · rw [e] at e'
      simp at e'
      obtain ⟨_, rfl, _⟩ := e'
      rcases h' with h' | h'
      · exact n1 h'
      · exact n2 h'
  have hstr : ∀ (v : Value) (ws : List Hw.Wd), StrsAt w base v ws → ∀ k, k ∈ d :: bm :: lv.ownBlock.toList → v.ownBlock ≠ some k := by
    intro v ws hv k hk e
    obtain ⟨_, cur, hc⟩ := hv.type e
    exact hcell _ _ _ _ hc (by decide) (by decide) hk
  refine ⟨⟨hs.sh, h.pl.kept hs.kept ?_, h.q.kept hs.kept (hcell _ _ _ _ h.q.blk (by decide) (by decide)) (hstr _ _ h.q.own), fun A hA => (h.kd A hA).kept hs.kept (hcell _ _ _ _ (h.kd A hA).blk (by decide) (by decide)) (hstr _ _ (h.kd A hA).own), h.sep, h.seq, h.ne, h.lo, Nat.le_trans h.size hs.kept.size⟩, hs.kept.below h.size (fun k hk => (hty k hk).1)⟩
  intro hm
  rcases (hty _ hm).2 with e | ⟨c', t', fr', e', _⟩
  · exact h.ne e
  · rw [hpm] at e'; cases e'

/-- what is done to a drawing, from one call of it to the next. -/
structure DS (w w' : World) (base d bm L M pm qb : Nat) (lv' iv' : Value) (said : List Hw.Rl) (P : Hw.Pl) (ls' : List Hw.Ln) (P' : Hw.Pl) (K' : List KM) (Q' ex : List Hw.Wd) (T : Nat) : Prop where
  dm : DM w' base d bm L M pm qb lv' iv' said ls' P' K' Q'
  di : Hw.DI L M said ls' P' (kes K') Q' ex T
  low : Below base w w'
  tog : ∀ x y, Hw.Tog P x y → Hw.Tog P' x y

theorem DS.trans {w w1 w2 : World} {base d bm L M pm qb : Nat} {lv1 iv1 lv2 iv2 : Value} {said : List Hw.Rl} {P P1 P2 : Hw.Pl} {ls1 ls2 : List Hw.Ln} {K1 K2 : List KM} {Q1 Q2 ex1 ex2 : List Hw.Wd} {T1 T2 : Nat}
    (h : DS w w1 base d bm L M pm qb lv1 iv1 said P ls1 P1 K1 Q1 ex1 T1) (h' : DS w1 w2 base d bm L M pm qb lv2 iv2 said P1 ls2 P2 K2 Q2 ex2 T2) : DS w w2 base d bm L M pm qb lv2 iv2 said P ls2 P2 K2 Q2 ex2 T2 :=
  ⟨h'.dm, h'.di, h.low.trans h'.low, fun x y hxy => h'.tog x y (h.tog x y hxy)⟩

theorem kes_k (K : List KM) : (kes K).map Hw.KE.k = K.map KM.k := by simp [kes, KM.ke]
theorem mem_kes {K : List KM} {A : KM} (h : A ∈ K) : A.ke ∈ kes K := List.mem_map_of_mem h

/-- boxes of places are written. -/
theorem DMn.boxes {w w' : World} {base d bm L M pm qb n : Nat} {lv iv : Value} {said : List Hw.Rl} {ls : List Hw.Ln} {P : Hw.Pl} {K : List KM} {Q : List Hw.Wd} {S : List Nat} (h : DMn w base d bm L M pm qb lv iv said ls P K Q n) (hK : Kept S w w') (hS : ∀ k, k ∈ S → base ≤ k ∧ ∃ c fr, w.heap[k]? = some (.cells c 150 fr)) :
    DMn w' base d bm L M pm qb lv iv said ls P K Q n ∧ Below base w w' := by
  have hcell : ∀ k c t fr, w.heap[k]? = some (.cells c t fr) → t ≠ 150 → k ∉ S := by
    intro k c t fr e n1 hm
    obtain ⟨_, c', fr', e'⟩ := hS k hm
    rw [e] at e'; simp at e'; exact n1 e'.2.1
  have hmap : ∀ k es cl, w.heap[k]? = some (.map es cl) → k ∉ S := by
    intro k es cl e hm
    obtain ⟨_, c', fr', e'⟩ := hS k hm
    rw [e] at e'; cases e'
  have hstr : ∀ (v : Value) (ws : List Hw.Wd), StrsAt w base v ws → ∀ k, k ∈ S → v.ownBlock ≠ some k := by
    intro v ws hv k hk e
    obtain ⟨_, cur, hc⟩ := hv.type e
    exact hcell _ _ _ _ hc (by decide) hk
  obtain ⟨es, cl, hpm⟩ := h.pl.obj
  obtain ⟨F, hF, _⟩ := h.sh.bk
  obtain ⟨es2, cl2, hbm⟩ := hF.obj
  refine ⟨⟨h.sh.kept hK (hcell _ _ _ _ h.sh.blk (by decide)) (hmap _ _ _ hbm) ?_, h.pl.kept hK (hmap _ _ _ hpm), h.q.kept hK (hcell _ _ _ _ h.q.blk (by decide)) (hstr _ _ h.q.own), fun A hA => (h.kd A hA).kept hK (hcell _ _ _ _ (h.kd A hA).blk (by decide)) (hstr _ _ (h.kd A hA).own), h.sep, h.seq, h.ne, h.lo, Nat.le_trans h.size hK.size⟩, hK.below h.size (fun k hk => (hS k hk).1)⟩
  intro k hk e
  obtain ⟨_, cur, hc⟩ := LinesAt.type h.sh.own e
  exact hcell _ _ _ _ hc (by decide) hk

/-- a word that is new stands in a kind of its own. -/
theorem DM.at_new {w w3 w4 : World} {base d bm L M pm qb : Nat} {lv lv' iv : Value} {said : List Hw.Rl} {ls : List Hw.Ln} {P : Hw.Pl} {K : List KM} {Q ex : List Hw.Wd} {T : Nat} {x : Hw.Wd} {k g n : Nat} {F : Lit → Option Value}
    (h : DM w base d bm L M pm qb lv iv said ls P K Q) (hdi : Hw.DI L M said ls P (kes K) Q ex T) (hx : Hw.isWord L M x = true) (hP : P x = none) (h3 : DM w3 base d bm L M pm qb lv' iv said (ls ++ [⟨0, x, x, 0, 0, 0, [], []⟩]) P K Q) (hlow : Below base w w3)
    (hg3 : w3.heap[g]? = some (.cells #[.string ⟨x.toArray⟩] 9 (0, 0))) (hgl : w.heap.size ≤ g) (hk3 : w3.heap[k]? = some (.cells #[.slice (some ⟨g, 0, none⟩) 1 1, .string ⟨x.toArray⟩] 153 (0, 0))) (hkl : w.heap.size ≤ k)
    (hF : ∀ s : Hw.Wd, F (.string s) = (P s).map pv) (hm : MapIs w4 9 pm (n + 1) (setF F (.string x) (pv (k, ls.length)))) (hg4 : w3.grownBy w4 (some pm)) (hn : n = Hw.nw (kes K) + Hw.sF (kes K)) :
    DS w w4 base d bm L M pm qb lv' iv said P (ls ++ [⟨0, x, x, 0, 0, 0, [], []⟩]) (P.set x (k, ls.length)) (⟨k, .slice (some ⟨g, 0, none⟩) 1 1, [x], x⟩ :: K) Q ex T := by
  have hknew : ∀ A, A ∈ K → A.k ≠ k := by
    intro A hA e
    have := lt_of_block (h.kd A hA).blk
    omega
  have hrnew : ∀ A, A ∈ K → ∀ g', A.rv.ownBlock = some g' → g' < w.heap.size := by
    intro A hA g' e
    obtain ⟨_, cur, hc⟩ := (h.kd A hA).own.type e
    exact lt_of_block hc
  have hsz := h.size
  have hK4 : Kept [pm] w3 w4 := Kept.of_grown hg4 (by simp)
  obtain ⟨es3, cl3, hpm3⟩ := h3.pl.obj
  have hpmc : ∀ j c t fr, w3.heap[j]? = some (.cells c t fr) → j ∉ [pm] := by
    intro j c t fr e hm
    simp at hm; subst hm
    rw [hpm3] at e; cases e
  have hrow : ∀ (v : Value) (ws : List Hw.Wd), StrsAt w3 base v ws → ∀ j, j ∈ [pm] → v.ownBlock ≠ some j := by
    intro v ws hv j hj e
    obtain ⟨_, cur, hc⟩ := hv.type e
    exact hpmc _ _ _ _ hc hj
  obtain ⟨FB3, hFB3, hFBp⟩ := h3.sh.bk
  obtain ⟨es4, cl4, hbm3⟩ := hFB3.obj
  have hnewK : KAt w4 base ⟨k, .slice (some ⟨g, 0, none⟩) 1 1, [x], x⟩ := by
    refine ⟨hK4.at hk3 (hpmc _ _ _ _ hk3), ?_, Nat.le_trans hsz hkl⟩
    refine ⟨rfl, .inr ⟨g, 1, _, rfl, Nat.le_trans hsz hgl, hK4.at hg3 (hpmc _ _ _ _ hg3), Nat.le_refl _, by unfold maxLen; omega, rfl, rfl⟩⟩
  have hc1 : Hw.cost 1 = 0 := by decide
  obtain ⟨hdi', htog⟩ := hdi.at_new (k := k) hx hP (by rw [kes_k]; intro hm; obtain ⟨A, hA, e⟩ := List.mem_map.1 hm; exact hknew A hA e)
  refine ⟨⟨?_, ?_, h3.q.kept hK4 (hpmc _ _ _ _ h3.q.blk) (hrow _ _ h3.q.own), ?_, ?_, ?_, h.ne, h.lo, ?_⟩, hdi', ?_, htog⟩
  · refine h3.sh.kept hK4 (hpmc _ _ _ _ h3.sh.blk) (by simpa using h.ne.symm) ?_
    intro j hj e
    obtain ⟨_, cur, hc⟩ := LinesAt.type h3.sh.own e
    exact hpmc _ _ _ _ hc hj
  · refine ⟨_, hm.mono ?_, ?_⟩
    · rw [hn]; simp [kes, Hw.nw, Hw.sF, KM.ke, hc1]; omega
    · intro s
      unfold setF Hw.Pl.set
      by_cases e : s = x
      · subst e; simp
      · have : ¬ (Lit.string s = Lit.string x) := by simpa using e
        rw [if_neg this, if_neg e]; exact hF s
  · intro A hA
    rcases List.mem_cons.1 hA with rfl | hA
    · exact hnewK
    · exact (h3.kd A hA).kept hK4 (hpmc _ _ _ _ (h3.kd A hA).blk) (hrow _ _ (h3.kd A hA).own)
  · intro A B hA hB hne g' e1 e2
    rcases List.mem_cons.1 hA with rfl | hA <;> rcases List.mem_cons.1 hB with rfl | hB
    · exact hne rfl
    · simp [Value.ownBlock] at e1; have := hrnew B hB g' e2; omega
    · simp [Value.ownBlock] at e2; have := hrnew A hA g' e1; omega
    · exact h.sep A B hA hB hne g' e1 e2
  · intro A hA g' e1 e2
    rcases List.mem_cons.1 hA with rfl | hA
    · simp [Value.ownBlock] at e1
      obtain ⟨_, cur, hc⟩ := h.q.own.type e2
      have := lt_of_block hc; omega
    · exact h.seq A hA g' e1 e2
  · exact Nat.le_trans h3.size hK4.size
  · exact hlow.trans (hK4.below h3.size (by simp; exact h.lo.2.2.1))
end Dr
end Go.Proofs.YtfiebibpgbadlaaGreat
namespace Go.Proofs.YtfiebibpgbadlaaGreat
open Go.RowKit
set_option linter.unusedVariables false
set_option linter.unusedSimpArgs false
namespace Dr

theorem zero_place (w : World) : (zeroValue 150).run Tryz.prog w = .ok (.agg #[.pointer none, .int .i64 0]) w := by
  kernel_rfl
theorem str_key (s : Hw.Wd) (hs : s.length ≤ 6) : keyOf Tryz.prog 9 (.string ⟨s.toArray⟩) = some (.string s) := by
  have := WideMaps.keyOf_string_mk (P := Tryz.prog) (k := 9) Tryz.underlying9 (s := ⟨s.toArray⟩) (by simp [ByteArray.size, maxLen]; omega)
  simpa using this

/-- What at does: the word stands somewhere then. -/
def AtP (w w' : World) (base d bm L M pm qb : Nat) (iv : Value) (said : List Hw.Rl) (P : Hw.Pl) (K : List KM) (Q ex : List Hw.Wd) (T : Nat) (ls : List Hw.Ln) (x : Hw.Wd) (e : Ending) : Prop :=
  ∃ (k l : Nat) (lv' : Value) (ls' : List Hw.Ln) (P' : Hw.Pl) (K' : List KM), e = .returned (.agg #[.pointer (some ⟨k, 0, none⟩), .int .i64 (l : Int)]) ∧ DS w w' base d bm L M pm qb lv' iv said P ls' P' K' Q ex T ∧ P' x = some (k, l) ∧ (∀ y v, P y = some v → P' y = some v) ∧ (∀ A, A ∈ K → A ∈ K') ∧ (P x ≠ none → P' = P ∧ K' = K) ∧ Hw.Ext ls ls' 1

def atW (w : World) (x : Hw.Wd) : World := (((w.alloc (Obj.cells #[Value.pointer none, Value.int IntKind.i64 0] 150)).alloc (Obj.cells #[Value.pointer none, Value.int IntKind.i64 0] 150)).alloc (Obj.cells #[Value.string ⟨x.toArray⟩] 9)).alloc (Obj.cells #[Value.slice (some ⟨w.heap.size + 1 + 1, 0, none⟩) 1 1, Value.string ⟨x.toArray⟩] 153)
/-- What at lays for a word that is new. -/
def AtW (w w1 : World) (x : Hw.Wd) : Prop := Below w.heap.size w w1 ∧ w1.heap[w.heap.size]? = some (.cells #[.pointer none, .int .i64 0] 150 (0, 0)) ∧ w1.heap[w.heap.size + 1]? = some (.cells #[.pointer none, .int .i64 0] 150 (0, 0)) ∧
  w1.heap[w.heap.size + 1 + 1]? = some (.cells #[.string ⟨x.toArray⟩] 9 (0, 0)) ∧ w1.heap[w.heap.size + 1 + 1 + 1]? = some (.cells #[.slice (some ⟨w.heap.size + 1 + 1, 0, none⟩) 1 1, .string ⟨x.toArray⟩] 153 (0, 0))
theorem at_world (w : World) (x : Hw.Wd) : AtW w (atW w x) x := by
  have s1 : (w.alloc (Obj.cells #[Value.pointer none, Value.int IntKind.i64 0] 150)).heap.size = w.heap.size + 1 := by simp
  have s2 : ((w.alloc (Obj.cells #[Value.pointer none, Value.int IntKind.i64 0] 150)).alloc (Obj.cells #[Value.pointer none, Value.int IntKind.i64 0] 150)).heap.size = w.heap.size + 1 + 1 := by simp
  have s3 : (((w.alloc (Obj.cells #[Value.pointer none, Value.int IntKind.i64 0] 150)).alloc (Obj.cells #[Value.pointer none, Value.int IntKind.i64 0] 150)).alloc (Obj.cells #[Value.string ⟨x.toArray⟩] 9)).heap.size = w.heap.size + 1 + 1 + 1 := by simp
  unfold AtW atW
  refine ⟨((((Below.refl w.heap.size w).alloc (Nat.le_refl _) _).alloc (by simp) _).alloc (by simp; omega) _).alloc (by simp; omega) _, ?_, ?_, ?_, ?_⟩
  · rw [Below.heap_alloc _ _ _ (by simp; omega), Below.heap_alloc _ _ _ (by simp; omega), Below.heap_alloc _ _ _ (by simp)]
    exact heap_alloc_new _ _
  · rw [Below.heap_alloc _ _ _ (by simp), Below.heap_alloc _ _ _ (by simp), ← s1]
    exact heap_alloc_new _ _
  · rw [Below.heap_alloc _ _ _ (by simp), ← s2]
    exact heap_alloc_new _ _
  · rw [← s3]
    exact heap_alloc_new _ _

theorem at_self {w w1 w2 : World} {base d bm L M pm qb m : Nat} {lv lv' iv : Value} {said : List Hw.Rl} {ls ls' : List Hw.Ln} {P : Hw.Pl} {K : List KM} {Q : List Hw.Wd} {x : Hw.Wd} (h : DM w base d bm L M pm qb lv iv said ls P K Q) (hW : AtW w w1 x) (hs : ShS w1 w2 base d bm L M pm qb lv lv' said ls ls' m) :
    DM w2 base d bm L M pm qb lv' iv said ls' P K Q ∧ Below base w w2 ∧ w2.heap[w.heap.size]? = some (.cells #[.pointer none, .int .i64 0] 150 (0, 0)) ∧ w2.heap[w.heap.size + 1]? = some (.cells #[.pointer none, .int .i64 0] 150 (0, 0)) ∧
    w2.heap[w.heap.size + 1 + 1]? = some (.cells #[.string ⟨x.toArray⟩] 9 (0, 0)) ∧ w2.heap[w.heap.size + 1 + 1 + 1]? = some (.cells #[.slice (some ⟨w.heap.size + 1 + 1, 0, none⟩) 1 1, .string ⟨x.toArray⟩] 153 (0, 0)) := by
  obtain ⟨hb, r0, r1, r2, r3⟩ := hW
  have h1 := h.below hb
  obtain ⟨h2, hl2⟩ := h1.sheet hs
  obtain ⟨FB, hFB, _⟩ := h1.sh.bk
  obtain ⟨es2, cl2, hbm1⟩ := hFB.obj
  have hS2 : ∀ j c t fr, w1.heap[j]? = some (.cells c t fr) → t ≠ 118 → t ≠ 54 → j ∉ d :: bm :: lv.ownBlock.toList := by
    intro j c t fr e n1 n2 hm
    simp only [List.mem_cons] at hm
    rcases hm with rfl | rfl | hm
    · rw [h1.sh.blk] at e; simp [dblock] at e; exact n1 e.2.1.symm
    · rw [hbm1] at e; cases e
    · obtain ⟨_, cur, hc⟩ := LinesAt.type h1.sh.own (by simpa using hm)
      rw [hc] at e; simp at e; exact n2 e.2.1.symm
  have hl1 : Below base w w1 := ⟨hb.os, hb.tape, hb.output, hb.size, fun j hj => hb.block j (by have := h.size; omega)⟩
  exact ⟨h2, hl1.trans hl2, hs.kept.at r0 (hS2 _ _ _ _ r0 (by decide) (by decide)), hs.kept.at r1 (hS2 _ _ _ _ r1 (by decide) (by decide)), hs.kept.at r2 (hS2 _ _ _ _ r2 (by decide) (by decide)), hs.kept.at r3 (hS2 _ _ _ _ r3 (by decide) (by decide))⟩

theorem at_box {w w2 : World} {base d bm L M pm qb l : Nat} {lv iv : Value} {said : List Hw.Rl} {ls : List Hw.Ln} {P : Hw.Pl} {K : List KM} {Q : List Hw.Wd} {x : Hw.Wd}
    (h : DM w2 base d bm L M pm qb lv iv said ls P K Q ∧ Below base w w2 ∧ w2.heap[w.heap.size]? = some (.cells #[.pointer none, .int .i64 0] 150 (0, 0)) ∧ w2.heap[w.heap.size + 1]? = some (.cells #[.pointer none, .int .i64 0] 150 (0, 0)) ∧
    w2.heap[w.heap.size + 1 + 1]? = some (.cells #[.string ⟨x.toArray⟩] 9 (0, 0)) ∧ w2.heap[w.heap.size + 1 + 1 + 1]? = some (.cells #[.slice (some ⟨w.heap.size + 1 + 1, 0, none⟩) 1 1, .string ⟨x.toArray⟩] 153 (0, 0))) (hsz : base ≤ w.heap.size) :
    DM ((w2.setCell ⟨w.heap.size + 1, 0, none⟩ (.pointer (some ⟨w.heap.size + 1 + 1 + 1, 0, none⟩))).setCell ⟨w.heap.size + 1, 1, none⟩ (.int .i64 (l : Int))) base d bm L M pm qb lv iv said ls P K Q ∧
    Below base w ((w2.setCell ⟨w.heap.size + 1, 0, none⟩ (.pointer (some ⟨w.heap.size + 1 + 1 + 1, 0, none⟩))).setCell ⟨w.heap.size + 1, 1, none⟩ (.int .i64 (l : Int))) ∧
    ((w2.setCell ⟨w.heap.size + 1, 0, none⟩ (.pointer (some ⟨w.heap.size + 1 + 1 + 1, 0, none⟩))).setCell ⟨w.heap.size + 1, 1, none⟩ (.int .i64 (l : Int))).heap[w.heap.size]? = some (.cells #[.pointer none, .int .i64 0] 150 (0, 0)) ∧
    ((w2.setCell ⟨w.heap.size + 1, 0, none⟩ (.pointer (some ⟨w.heap.size + 1 + 1 + 1, 0, none⟩))).setCell ⟨w.heap.size + 1, 1, none⟩ (.int .i64 (l : Int))).heap[w.heap.size + 1]? = some (.cells #[.pointer (some ⟨w.heap.size + 1 + 1 + 1, 0, none⟩), .int .i64 (l : Int)] 150 (0, 0)) ∧
    ((w2.setCell ⟨w.heap.size + 1, 0, none⟩ (.pointer (some ⟨w.heap.size + 1 + 1 + 1, 0, none⟩))).setCell ⟨w.heap.size + 1, 1, none⟩ (.int .i64 (l : Int))).heap[w.heap.size + 1 + 1]? = some (.cells #[.string ⟨x.toArray⟩] 9 (0, 0)) ∧
    ((w2.setCell ⟨w.heap.size + 1, 0, none⟩ (.pointer (some ⟨w.heap.size + 1 + 1 + 1, 0, none⟩))).setCell ⟨w.heap.size + 1, 1, none⟩ (.int .i64 (l : Int))).heap[w.heap.size + 1 + 1 + 1]? = some (.cells #[.slice (some ⟨w.heap.size + 1 + 1, 0, none⟩) 1 1, .string ⟨x.toArray⟩] 153 (0, 0)) := by
  obtain ⟨h1, hl, r0, r1, r2, r3⟩ := h
  have hK : Kept [w.heap.size + 1] w2 ((w2.setCell ⟨w.heap.size + 1, 0, none⟩ (.pointer (some ⟨w.heap.size + 1 + 1 + 1, 0, none⟩))).setCell ⟨w.heap.size + 1, 1, none⟩ (.int .i64 (l : Int))) := ((Kept.refl _ _).setCell (Or.inl (by simp)) _).setCell (Or.inl (by simp)) _
  obtain ⟨hd, hl2⟩ := h1.boxes hK (fun k hk => by rw [List.mem_singleton] at hk; subst hk; exact ⟨by omega, _, _, r1⟩)
  refine ⟨hd, hl.trans hl2, hK.at r0 (by simp), ?_, hK.at r2 (by rw [List.mem_singleton]; omega), hK.at r3 (by rw [List.mem_singleton]; omega)⟩
  rw [heap_setCell_same _ _ 1 _ _ _ (heap_setCell_same _ _ 0 _ _ _ r1)]; rfl

theorem at_fin {w w3 w4 : World} {base d bm L M pm qb : Nat} {lv lv' iv : Value} {said : List Hw.Rl} {ls : List Hw.Ln} {P : Hw.Pl} {K : List KM} {Q ex : List Hw.Wd} {T : Nat} {x : Hw.Wd} {F : Lit → Option Value} (h : DM w base d bm L M pm qb lv iv said ls P K Q) (hdi : Hw.DI L M said ls P (kes K) Q ex T) (hx : Hw.isWord L M x = true) (hP : P x = none)
    (h3 : DM w3 base d bm L M pm qb lv' iv said (ls ++ [⟨0, x, x, 0, 0, 0, [], []⟩]) P K Q ∧ Below base w w3 ∧ w3.heap[w.heap.size]? = some (.cells #[.pointer none, .int .i64 0] 150 (0, 0)) ∧ w3.heap[w.heap.size + 1]? = some (.cells #[.pointer (some ⟨w.heap.size + 1 + 1 + 1, 0, none⟩), .int .i64 (ls.length : Int)] 150 (0, 0)) ∧
      w3.heap[w.heap.size + 1 + 1]? = some (.cells #[.string ⟨x.toArray⟩] 9 (0, 0)) ∧ w3.heap[w.heap.size + 1 + 1 + 1]? = some (.cells #[.slice (some ⟨w.heap.size + 1 + 1, 0, none⟩) 1 1, .string ⟨x.toArray⟩] 153 (0, 0)))
    (hF : ∀ s : Hw.Wd, F (.string s) = (P s).map pv) (hm : MapIs w4 9 pm (Hw.nw (kes K) + Hw.sF (kes K) + 1) (setF F (.string x) (.agg #[.pointer (some ⟨w.heap.size + 1 + 1 + 1, 0, none⟩), .int .i64 (ls.length : Int)]))) (hg : w3.drew.grownBy w4 (some pm)) :
    w4.heap[w.heap.size]? = some (.cells #[.pointer none, .int .i64 0] 150 (0, 0)) ∧ w4.heap[w.heap.size + 1]? = some (.cells #[.pointer (some ⟨w.heap.size + 1 + 1 + 1, 0, none⟩), .int .i64 (ls.length : Int)] 150 (0, 0)) ∧ base ≤ w.heap.size ∧
    DS w ((w4.setCell ⟨w.heap.size, 0, none⟩ (.pointer (some ⟨w.heap.size + 1 + 1 + 1, 0, none⟩))).setCell ⟨w.heap.size, 1, none⟩ (.int .i64 (ls.length : Int))) base d bm L M pm qb lv' iv said P (ls ++ [⟨0, x, x, 0, 0, 0, [], []⟩]) (P.set x (w.heap.size + 1 + 1 + 1, ls.length)) (⟨w.heap.size + 1 + 1 + 1, .slice (some ⟨w.heap.size + 1 + 1, 0, none⟩) 1 1, [x], x⟩ :: K) Q ex T := by
  obtain ⟨h1, hl, r0, r1, r2, r3⟩ := h3
  have h3' := h1.same (drew_same w3)
  have hl' : Below base w w3.drew := hl.drew
  have hK : Kept [pm] w3.drew w4 := Kept.of_grown hg (by simp)
  obtain ⟨es3, cl3, hpm3⟩ := h3'.pl.obj
  have hpmc : ∀ j c t fr, w3.drew.heap[j]? = some (.cells c t fr) → j ∉ [pm] := by
    intro j c t fr e hm
    simp at hm; subst hm
    rw [hpm3] at e; cases e
  have D := h.at_new (w3 := w3.drew) (w4 := w4) (k := w.heap.size + 1 + 1 + 1) (g := w.heap.size + 1 + 1) (lv' := lv') hdi hx hP h3' hl' r2 (by omega) r3 (by omega) hF hm hg rfl
  have s0 := hK.at r0 (hpmc _ _ _ _ r0)
  have s1 := hK.at r1 (hpmc _ _ _ _ r1)
  have hK2 : Kept [w.heap.size] w4 ((w4.setCell ⟨w.heap.size, 0, none⟩ (.pointer (some ⟨w.heap.size + 1 + 1 + 1, 0, none⟩))).setCell ⟨w.heap.size, 1, none⟩ (.int .i64 (ls.length : Int))) := ((Kept.refl _ _).setCell (Or.inl (by simp)) _).setCell (Or.inl (by simp)) _
  obtain ⟨hd, hl2⟩ := D.dm.boxes hK2 (fun k hk => by rw [List.mem_singleton] at hk; subst hk; exact ⟨h.size, _, _, s0⟩)
  exact ⟨s0, s1, h.size, ⟨hd, D.di, D.low.trans hl2, D.tog⟩⟩

set_option maxRecDepth 20000 in
set_option maxHeartbeats 3200000 in
theorem at_old (w : World) (base d bm L M pm qb : Nat) (lv iv : Value) (said : List Hw.Rl) (ls : List Hw.Ln) (P : Hw.Pl) (K : List KM) (Q : List Hw.Wd) (x : Hw.Wd) (k l n : Nat) (hx6 : x.length ≤ 6) (hD : DMn w base d bm L M pm qb lv iv said ls P K Q n) (hPx : P x = some (k, l)) :
    Calls Tryz.prog 85 #[.pointer (some ⟨d, 0, none⟩), .string ⟨x.toArray⟩] w fun e w' => e = .returned (.agg #[.pointer (some ⟨k, 0, none⟩), .int .i64 (l : Int)]) ∧ Below w.heap.size w w' := by
  obtain ⟨F, hF, hFp⟩ := hD.pl
  have c4 := cellAt hD.sh.blk (j := 4) (v := .map (some pm)) rfl
  have hdl : d < w.heap.size := lt_of_block hD.sh.blk
  have q4 := alloc1_cell hdl
  have hrun := fun W (hW : Below w.heap.size w W) => (hF.kept (S := []) (Kept.of_below_size hW) (by simp)).look_some (t := 115) (Maps.string_keyed Tryz.underlying9) Tryz.underlying115 (zero_place _) (str_key x hx6) (v := pv (k, l)) (by rw [hFp, hPx]; rfl)
  unfold pv at hrun
  have hr1 := hrun w (Below.refl _ _)
  have hr2 := fun o => hrun (w.alloc o) (below_alloc w o)
  clear hrun hF hFp hD hPx
  go_enter Tryz.func85, Tryz.ntmps85
  go_wp2
  refine bodyPost_ret (v := .agg #[.pointer (some ⟨k, 0, none⟩), .int .i64 (l : Int)]) (by simp [results, Tryz.results85, go_sem]) rfl ?_
  exact ⟨rfl, below_trans (below_alloc w (.cells #[.pointer (some ⟨k, 0, none⟩), .int .i64 (l : Int)] 150)) (below_alloc (w.alloc (.cells #[.pointer (some ⟨k, 0, none⟩), .int .i64 (l : Int)] 150)) (.cells #[.pointer (some ⟨k, 0, none⟩), .int .i64 (l : Int)] 150))⟩

set_option maxRecDepth 20000 in
set_option maxHeartbeats 3200000 in
theorem at_any (w : World) (base d bm L M pm qb : Nat) (lv iv : Value) (said : List Hw.Rl) (ls : List Hw.Ln) (P : Hw.Pl) (K : List KM) (Q ex : List Hw.Wd) (T : Nat) (x : Hw.Wd) (hL3 : L ≤ 3) (hM6 : M ≤ 6) (hx : Hw.isWord L M x = true) (hD : DM w base d bm L M pm qb lv iv said ls P K Q) (hI : Hw.DI L M said ls P (kes K) Q ex T) :
    Calls Tryz.prog 85 #[.pointer (some ⟨d, 0, none⟩), .string ⟨x.toArray⟩] w fun e w' => AtP w w' base d bm L M pm qb iv said P K Q ex T ls x e := by
  obtain ⟨F, hF, hFp⟩ := hD.pl
  have hx6 : x.length ≤ 6 := by have := Hw.isWord_len hx; omega
  have c4 := cellAt hD.sh.blk (j := 4) (v := .map (some pm)) rfl
  have hdl : d < w.heap.size := lt_of_block hD.sh.blk
  have q4 := alloc1_cell hdl
  cases hPx : P x with
  | some p =>
    obtain ⟨k, l⟩ := p
    refine (at_old w base d bm L M pm qb lv iv said ls P K Q x k l _ hx6 hD hPx).mono ?_
    rintro e w' ⟨rfl, hb2⟩
    exact ⟨k, l, lv, ls, P, K, rfl, ⟨hD.below hb2, hI, ⟨hb2.os, hb2.tape, hb2.output, hb2.size, fun j hj => hb2.block j (by have := hD.size; omega)⟩, fun _ _ h => h⟩, hPx, fun _ _ h => h, fun _ h => h, fun _ => ⟨rfl, rfl⟩, Hw.Ext.refl _ _⟩
  | none =>
    have hrun := fun W (hW : Below w.heap.size w W) => (hF.kept (S := []) (Kept.of_below_size hW) (by simp)).look_none (t := 115) (Maps.string_keyed Tryz.underlying9) Tryz.underlying115 (zero_place _) (str_key x hx6) (by rw [hFp, hPx]; rfl)
    have hr1 := hrun w (Below.refl _ _)
    have hr2 := fun o => hrun (w.alloc o) (below_alloc w o)
    have HD := hide hD
    have HI := hide hI
    have HP := hide hPx
    have HF := hide hF
    have HFP := hide hFp
    clear hrun hF hFp hD hI hPx
    go_enter Tryz.func85, Tryz.ntmps85
    go_wp2_with fail
    have HW := hide (at_world w x)
    unfold atW at HW
    generalize ((((w.alloc (Obj.cells #[Value.pointer none, Value.int IntKind.i64 0] 150)).alloc (Obj.cells #[Value.pointer none, Value.int IntKind.i64 0] 150)).alloc (Obj.cells #[Value.string ⟨x.toArray⟩] 9)).alloc (Obj.cells #[Value.slice (some ⟨w.heap.size + 1 + 1, 0, none⟩) 1 1, Value.string ⟨x.toArray⟩] 153)) = w1 at HW ⊢
    have hf := (HI.out.bound hL3 hM6).2.1
    refine (self_any _ base d bm L M pm qb lv said ls x (HD.out.below HW.out.1).sh (by omega) (by have := HW.out.1.size; have := HD.out.size; omega) hx).mono ?_
    rintro e w2 ⟨lv2, rfl, hs2⟩
    have H2 := hide (at_self HD.out HW.out hs2)
    clear hs2 hr1 hr2 q4 c4 HF HFP
    have c4 := cellAt H2.out.1.sh.blk (j := 4) (v := .map (some pm)) rfl
    have x0 := cellAt H2.out.2.2.2.1 (j := 0) (v := .pointer none) rfl
    have x1 := cellAt H2.out.2.2.2.1 (j := 1) (v := .int .i64 0) rfl
    have xf0 := frozen_of_row w2 _ 0 _ _ H2.out.2.2.2.1
    have xf1 := frozen_of_row w2 _ 1 _ _ H2.out.2.2.2.1
    go_wp2_with fail
    have H3 := at_box (l := ls.length) H2.out HD.out.size
    generalize ((w2.setCell ⟨w.heap.size + 1, 0, none⟩ (.pointer (some ⟨w.heap.size + 1 + 1 + 1, 0, none⟩))).setCell ⟨w.heap.size + 1, 1, none⟩ (.int .i64 (ls.length : Int))) = w3 at H3 ⊢
    have hD3 := H3.1.same (drew_same w3)
    obtain ⟨F3, hF3, hF3p⟩ := hD3.pl
    have hnb := HI.out.bound hL3 hM6
    have hsf := Hw.sF_le hnb.1
    obtain ⟨w4, hrun, hm4, hg4⟩ := hF3.update (t := 115) (val := .agg #[.pointer (some ⟨w.heap.size + 1 + 1 + 1, 0, none⟩), .int .i64 (ls.length : Int)]) (Maps.string_keyed Tryz.underlying9) Tryz.underlying115 (by unfold maxLen; omega) (str_key x hx6)
    have R := at_fin HD.out HI.out hx HP.out H3 hF3p hm4 hg4
    clear x0 x1 xf0 xf1 c4 hm4 hg4 hF3 hF3p hsf hnb H2
    have c4 := cellAt H3.1.sh.blk (j := 4) (v := .map (some pm)) rfl
    have x0 := cellAt H3.2.2.2.1 (j := 0) (v := .pointer (some ⟨w.heap.size + 1 + 1 + 1, 0, none⟩)) rfl
    have x1 := cellAt H3.2.2.2.1 (j := 1) (v := .int .i64 (ls.length : Int)) rfl
    have HR := hide R.2.2.2
    have y0 := R.1
    have y1 := R.2.1
    have z0 := R.2.2.1
    clear R H3 hD3
    have y0a := cellAt y1 (j := 0) (v := .pointer (some ⟨w.heap.size + 1 + 1 + 1, 0, none⟩)) rfl
    have y1a := cellAt y1 (j := 1) (v := .int .i64 (ls.length : Int)) rfl
    have r0 := cellAt y0 (j := 0) (v := .pointer none) rfl
    have r1 := cellAt y0 (j := 1) (v := .int .i64 0) rfl
    have rf0 := frozen_of_row w4 _ 0 _ _ y0
    have rf1 := frozen_of_row w4 _ 1 _ _ y0
    go_region
    all_goals
      go_wp2
      refine bodyPost_ret (v := .agg #[.pointer (some ⟨w.heap.size + 1 + 1 + 1, 0, none⟩), .int .i64 (ls.length : Int)]) (by simp [results, Tryz.results85, go_sem, r0, r1]) rfl ?_
      exact ⟨_, _, _, _, _, _, rfl, HR.out, Hw.Pl.set_same _ _ _, fun y v hy => by rw [Hw.Pl.set_other _ _ (by rintro rfl; rw [HP.out] at hy; cases hy)]; exact hy, fun A hA => List.mem_cons_of_mem _ hA, fun h => absurd HP.out h, Hw.Ext.one _ _⟩
end Dr
end Go.Proofs.YtfiebibpgbadlaaGreat
